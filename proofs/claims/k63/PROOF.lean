import PyProof.Rows.All
import Wide.All
import OpenK.AllK
import Wide.FinOn
import Lean
import PyProof.EqAt
import PyProof.EqKinds
import PyProof.TupleCall
import PySem.Challenge.RW_wapentake_k63_whole_patterns_asked_again
import KE.KUnpack
import PyProof.Draws
import PyProof.EnumMake
import PyProof.Rows.EnumRows
import KE.KDictSum
import PyProof.Rows.SeqCalls
import KE.KPairRows
import PyProof.StrLawsIn
import PyProof.NeKinds
import PyProof.Rows.EqBoolInt
import PyProof.StrBlockH
import PyProof.FString5
import PyProof.SliceList
import KE.KLam
import KE.KNestM
import PyProof.DictIter
import PyProof.DictWalks
import KE.KDictOf
import PyProof.AttrMissHeap
import PyProof.ConsumeS
import PyProof.DictList
set_option Elab.async false
set_option linter.all false
set_option maxRecDepth 100000
set_option maxHeartbeats 4000000
namespace L2
open PySem PySem.Spec PyProof.Rows
abbrev Key:=Sum Int Str
def keyIs:Key->Value->Bool
 | .inl k,v=>Value.isInt k v
 | .inr x,v=>Value.isStrOf x v
def keyH (w:World):Key->Int
 | .inl k=>hashInt k
 | .inr x=>hashStr w x
theorem keyIs_shape:∀{k:Key}{v:Value},keyIs k v=true->(∃ i t,k=Sum.inl i/\v=Value.int i t)∨(∃ x t,k=Sum.inr x/\v=Value.str x t)
 | .inl i,v,h=>by
  obtain ⟨t,e⟩:=Value.isInt_shape (k:=i) (v:=v) h
  exact .inl ⟨i,t,rfl,e⟩
 | .inr x,v,h=>by
  obtain ⟨t,e⟩:=Value.isStrOf_shape (x:=x) (v:=v) h
  exact .inr ⟨x,t,rfl,e⟩
theorem keyIs_int (i:Int) (t:Tok):keyIs (.inl i) (.int i t)=true:=by simp [keyIs,Value.isInt]
theorem keyIs_str (x:Str) (t:Tok):keyIs (.inr x) (.str x t)=true:=by simp [keyIs,Value.isStrOf]
theorem key_ll (a b:Int):decide ((Sum.inl a:Key)=Sum.inl b)=(a == b):=by
 by_cases e:a=b
 ·subst e; simp
 ·have h:¬ (Sum.inl a:Key)=Sum.inl b:=fun q=>e (Sum.inl.inj q)
  rw [decide_eq_false h]
  exact (beq_eq_false_iff_ne.mpr e).symm
theorem key_rr (a b:Str):decide ((Sum.inr a:Key)=Sum.inr b)=decide (a=b):=by
 by_cases e:a=b
 ·subst e; simp
 ·have h:¬ (Sum.inr a:Key)=Sum.inr b:=fun q=>e (Sum.inr.inj q)
  rw [decide_eq_false h,decide_eq_false e]
theorem key_lr (a:Int) (b:Str):decide ((Sum.inl a:Key)=Sum.inr b)=false:=decide_eq_false (fun q=>nomatch q)
theorem key_rl (a:Str) (b:Int):decide ((Sum.inr a:Key)=Sum.inl b)=false:=decide_eq_false (fun q=>nomatch q)
def mixKind (prog:Program) (w:World):PySem.KeyKind prog w Key where
 is:=keyIs
 hash:=keyH w
 inj:=fun v a b ha hb=>by
  rcases keyIs_shape ha with ⟨i,t,rfl,rfl⟩ | ⟨x,t,rfl,rfl⟩
  ·rcases keyIs_shape hb with ⟨j,u,rfl,e⟩ | ⟨y,u,rfl,e⟩
   ·injection e with e1 _; rw [e1]
   ·exact nomatch e
  ·rcases keyIs_shape hb with ⟨j,u,rfl,e⟩ | ⟨y,u,rfl,e⟩
   ·exact nomatch e
   ·injection e with e1 _; rw [e1]
 byValue:=fun k v h=>by
  rcases keyIs_shape h with ⟨i,t,rfl,rfl⟩ | ⟨x,t,rfl,rfl⟩ <;> rfl
 pyHash:=fun hv h=>by
  rcases keyIs_shape hv with ⟨i,t,rfl,rfl⟩ | ⟨x,t,rfl,rfl⟩
  ·exact wpAny_pyHash_int h
  ·exact wpAny_pyHash_str h
 eqBool:=fun hu hv h=>by
  rcases keyIs_shape hu with ⟨i,t,rfl,rfl⟩ | ⟨x,t,rfl,rfl⟩
  ·rcases keyIs_shape hv with ⟨j,u,rfl,rfl⟩ | ⟨y,u,rfl,rfl⟩
   ·rw [key_ll] at h; exact wpAny_eqBool_int h
   ·rw [key_lr] at h; exact SeqAt.EqAt.int_str i t y u _ _ _ _ h
  ·rcases keyIs_shape hv with ⟨j,u,rfl,rfl⟩ | ⟨y,u,rfl,rfl⟩
   ·rw [key_rl] at h; exact SeqAt.EqAt.str_int x t j u _ _ _ _ h
   ·rw [key_rr] at h; exact wpAny_eqBool_str h
 «strs» := fun k x t v h=>by
  rcases keyIs_shape h with ⟨i,u,rfl,e⟩ | ⟨y,u,rfl,e⟩
  ·exact nomatch e
  ·injection e with e1 _
   subst e1
   cases v <;> rfl
theorem mixKind_int (prog:Program) (w:World) (i:Int) (t:Tok):(mixKind prog w).is (.inl i) (.int i t)=true:=keyIs_int i t
theorem mixKind_str (prog:Program) (w:World) (x:Str) (t:Tok):(mixKind prog w).is (.inr x) (.str x t)=true:=keyIs_str x t
end L2
namespace L2
open PySem PySem.Spec PyProof.Rows
inductive V where
 | non | bl (b:Bool) | int (i:Int) | str (x:Str) | byt (b:Array UInt8) | flt (b:UInt64) | ref (a:Addr) | ty (n:String)
 deriving DecidableEq
def RelV:V->Value->Prop
 | .non,u=>u=Value.none
 | .bl b,u=>u=Value.bool b
 | .int i,u=>∃ t,u=Value.int i t
 | .str x,u=>∃ t,u=Value.str x t
 | .byt b,u=>∃ t,u=Value.bytes b t
 | .flt b,u=>∃ t,u=Value.float b t
 | .ref a,u=>u=Value.ref a
 | .ty n,u=>u=Value.type n
abbrev Vals:List V->List Value->Prop:=Paired RelV
theorem Vals.length {xs:List V}{us:List Value}(r:Vals xs us):xs.length=us.length:=Paired.length r
theorem Vals.get:∀{xs:List V}{us:List Value}{i:Nat}{x:V},Vals xs us->xs[i]? = some x->∃ u,us[i]? = some u/\RelV x u
 | _,_,_,_,.nil,e=>by simp at e
 | _,_,0,_,.cons r _,e=>by simp at e; subst e; exact ⟨_,rfl,r⟩
 | _,_,i + 1,x,.cons _ t,e=>by
  obtain ⟨u,h1,h2⟩:=Vals.get (i:=i) (x:=x) t (by simpa using e)
  exact ⟨u,by simpa using h1,h2⟩
theorem Vals.set {x:V}{u:Value}(r:RelV x u):∀{xs:List V}{us:List Value}(i:Nat),Vals xs us->Vals (xs.set i x) (us.set i u)
 | _,_,_,.nil=>.nil
 | _,_,0,.cons _ t=>.cons r t
 | _,_,i + 1,.cons q t=>.cons q (Vals.set r i t)
theorem Vals.append:∀{xs ys:List V}{us ws:List Value},Vals xs us->Vals ys ws->Vals (xs ++ ys) (us ++ ws)
 | _,_,_,_,.nil,s=>s
 | _,_,_,_,.cons r t,s=>.cons r (Vals.append t s)
theorem Vals.take:∀{xs:List V}{us:List Value}(n:Nat),Vals xs us->Vals (xs.take n) (us.take n)
 | _,_,0,_=>.nil
 | _,_,_ + 1,.nil=>.nil
 | _,_,n + 1,.cons r t=>.cons r (Vals.take n t)
theorem Vals.drop:∀{xs:List V}{us:List Value}(n:Nat),Vals xs us->Vals (xs.drop n) (us.drop n)
 | _,_,0,r=>r
 | _,_,_ + 1,.nil=>.nil
 | _,_,n + 1,.cons _ t=>Vals.drop n t
theorem Vals.none_of:∀{xs:List V}{us:List Value}{i:Nat},Vals xs us->xs[i]? = none->us[i]? = none:=fun {xs us i} r e=>by
 have h1:=r.length
 have h2:xs.length<=i:=List.getElem?_eq_none_iff.mp e
 exact List.getElem?_eq_none_iff.mpr (by omega)
def RelO:Option V->Option Value->Prop
 | some v,some u=>RelV v u
 | none,none=>True
 | _,_=>False
def KV {κ:Type}:List (κ×V)->List (κ×Value)->Prop:=Paired fun (p:κ×V) (q:κ×Value)=>p.1=q.1/\RelV p.2 q.2
def kV:Key->V
 | .inl i=>.int i
 | .inr x=>.str x
inductive HO where
 /-- a list -/
 | lst (xs:List V)
 /-- a tuple (never changes) -/
 | tup (xs:List V)
 /-- a dict whose keys are ints and texts; one whose keys are tuples of ints and texts (the empty one is both) -/
 | dK (kvs:List (Key×V)) | dT (kvs:List (List Key×V))
 /-- a set of ints: its members,its size -/
 | set (S:Int->Bool) (n:Nat)
 /-- an instance of the class at C,its dict at dx,its attributes -/
 | ins (C dx:Addr) (fs:List (Str×V))
 /-- the dict of the instance at x -/
 | own (x:Addr)
 /-- the dict of an exception -/
 | xd (fs:List (Str×V))
 /-- a bound method,f of x -/
 | met (f x:Addr)
 /-- a range object lo,lo + 1,.. below hi -/
 | rng (lo hi:Int)
 /-- a thing that is known to the object (the script; a dict while a loop walks it): read,never written while it is so -/
 | frz (o:Obj) (u:HO)
 /-- a code object's table -/
 | tbl (ps:Array Value)
 /-- any other thing,by what is true of its one object (a def of one's own: SetO a S n:=HO.ext fun h=>..) -/
 | ext (φ:Heap->Prop)
abbrev Hp:=Addr->Option HO
def upd (H:Hp) (a:Addr) (o:HO):Hp:=fun b=>if b=a then some o else H b
theorem upd_same {H:Hp}{a:Addr}{o:HO}:upd H a o a=some o:=by unfold upd; rw [if_pos rfl]
theorem upd_ne {H:Hp}{a b:Addr}{o:HO}(h:b≠a):upd H a o b=H b:=by unfold upd; rw [if_neg h]
theorem ne_of {H:Hp}{a b:Addr}{o u:HO}(h:H a=some o) (h':H b=some u) (d:o≠u):a≠b:=by
 intro e; subst e; rw [h] at h'; exact d (Option.some.inj h')
theorem ne_of_none {H:Hp}{a b:Addr}{o:HO}(h:H a=some o) (h':H b=none):a≠b:=by
 intro e; subst e; rw [h] at h'; cases h'
section
variable (P:Program) (w:World)
def ObjOk (H:Hp) (h:Heap) (a:Addr):HO->Prop
 | .lst xs=>xs.length<=sizeLine/\∃(its:List Value) (n:Nat),Vals xs its/\h.get? a=some { cls:=.type "list",data:=.seq its.toArray n }
 | .tup xs=>xs.length<=sizeLine/\∃ its:List Value,Vals xs its/\IsTup h a its.toArray
 | .dK kvs=>kvs.length<=sizeLine/\(a == sysModules)=false/\∃ vs,KV kvs vs/\h.DictOf (mixKind P w) a vs
 | .dT kvs=>kvs.length<=sizeLine/\(a == sysModules)=false/\∃ xs:List (List Key×Addr×Value),
   Paired (fun (p:List Key×V) (q:List Key×Addr×Value)=>p.1=q.1/\H q.2.1=some (.tup (p.1.map kV))/\RelV p.2 q.2.2) kvs xs /\
   ∃ o es ep,h.get? a=some o/\o.ExactDict/\o.data=.dict es ep/\es.toList=xs.map (entryOfKey (tupleKind (mixKind P w)))/\(xs.map (·.1)).Nodup
 | .set S n=>h.SetOf (intKind P w) a S n
 | .ins C dx fs=>H dx=some (.own a)/\fs.length<=1000/\dx≠a/\h.get? a=some (PySem.W.instObj C dx) /\
   ∃ mA,h.Ns1 dx mA/\(∀ f,RelO (fs.lookup f) (mA f))/\PySem.Within mA (fs.map (·.1))
 | .own _=>∃ o,h.get? a=some o
 | .xd fs=>∃ mA,h.Ns1 a mA/\∀ f,RelO (fs.lookup f) (mA f)
 | .rng lo hi=>∃ t u v,h.get? a=some { cls:=.type "range",data:=.fields #[.int lo t,.int hi u,.int 1 v] }
 | .frz o u=>h.get? a=some o/\ObjOk H h a u
 | .tbl ps=>h.get? a=some { cls:=.none,data:=.fields ps }
 | .met f x=>h.get? a=some (PySem.W.methodObj (.ref f) (.ref x))
 | .ext φ=>φ h/\(∃ o,h.get? a=some o)/\∀ h1 h2:Heap,φ h1->(∀ o,h1.get? a=some o->h2.get? a=some o)->φ h2
def HOk (H:Hp) (h:Heap):Prop:=∀ a o,H a=some o->ObjOk P w H h a o
end
section
variable {P:Program}{w:World}{H H':Hp}{h h':Heap}{a:Addr}{o:HO}
theorem ObjOk.lt (x:ObjOk P w H h a o):a < h.objs.size:=by
 cases o with
 | lst xs=>obtain ⟨_,_,_,_,e⟩:=x; exact Heap.lt_size e
 | tup xs=>obtain ⟨_,_,_,p⟩:=x; exact p.lt
 | dK kvs=>obtain ⟨_,_,_,_,o,_,_,e,_⟩:=x; exact Heap.lt_size e
 | dT kvs=>obtain ⟨_,_,_,_,o,_,_,e,_⟩:=x; exact Heap.lt_size e
 | set S n=>obtain ⟨o,_,_,_,e,_⟩:=x; exact Heap.lt_size e
 | ins C dx fs=>obtain ⟨_,_,_,e,_⟩:=x; exact Heap.lt_size e
 | own y=>obtain ⟨_,e⟩:=x; exact Heap.lt_size e
 | xd fs=>obtain ⟨_,⟨_,_,_,e,_⟩,_⟩:=x; exact Heap.lt_size e
 | rng lo hi=>obtain ⟨_,_,_,e⟩:=x; exact Heap.lt_size e
 | frz ob u=>obtain ⟨e,_⟩:=x; exact Heap.lt_size e
 | tbl ps=>exact Heap.lt_size (show h.get? a=some _ from x)
 | met f y=>exact Heap.lt_size (show h.get? a=some _ from x)
 | ext φ=>obtain ⟨_,⟨_,e⟩,_⟩:=x; exact Heap.lt_size e
theorem Paired.mapP {α β:Type}{F G:α->β->Prop}:∀{l₁:List α}{l₂:List β},Paired F l₁ l₂->(∀ a b,F a b->G a b)->Paired G l₁ l₂
 | _,_,.nil,_=>.nil
 | _,_,.cons r t,f=>.cons (f _ _ r) (Paired.mapP t f)
theorem ObjOk.stay (x:ObjOk P w H h a o) (k:∀ b u,(b=a∨H b=some (.own a))->h.get? b=some u->h'.get? b=some u)
  (ho:∀ b,H b=some (.own a)->H' b=some (.own a)) (ht:∀ b xs,H b=some (.tup xs)->H' b=some (.tup xs)):ObjOk P w H' h' a o:=by
 induction o with
 | lst xs=>obtain ⟨z,its,n,r,e⟩:=x; exact ⟨z,its,n,r,k _ _ (.inl rfl) e⟩
 | tup xs=>obtain ⟨z,its,r,ob,e,c⟩:=x; exact ⟨z,its,r,ob,k _ _ (.inl rfl) e,c⟩
 | dK kvs=>obtain ⟨z,y,vs,r,ob,es,ep,e,c⟩:=x; exact ⟨z,y,vs,r,ob,es,ep,k _ _ (.inl rfl) e,c⟩
 | dT kvs =>
  obtain ⟨z,y,xs,r,ob,es,ep,e,c⟩:=x
  exact ⟨z,y,xs,Paired.mapP r fun p q z=>⟨z.1,ht _ _ z.2.1,z.2.2⟩,ob,es,ep,k _ _ (.inl rfl) e,c⟩
 | set S n=>obtain ⟨ob,es,ep,t,e,c⟩:=x; exact ⟨ob,es,ep,t,k _ _ (.inl rfl) e,c⟩
 | ins C dx fs =>
  obtain ⟨d,z,ne,e,mA,⟨od,es,ep,e2,c⟩,r⟩:=x
  exact ⟨ho _ d,z,ne,k _ _ (.inl rfl) e,mA,⟨od,es,ep,k _ _ (.inr d) e2,c⟩,r⟩
 | own y=>obtain ⟨ob,e⟩:=x; exact ⟨ob,k _ _ (.inl rfl) e⟩
 | xd fs=>obtain ⟨mA,⟨od,es,ep,e,c⟩,r⟩:=x; exact ⟨mA,⟨od,es,ep,k _ _ (.inl rfl) e,c⟩,r⟩
 | rng lo hi=>obtain ⟨t,u,v,e⟩:=x; exact ⟨t,u,v,k _ _ (.inl rfl) e⟩
 | frz ob u ih=>obtain ⟨e,q⟩:=x; exact ⟨k _ _ (.inl rfl) e,ih q⟩
 | tbl ps =>
  have e:h.get? a=some { cls:=.none,data:=.fields ps }:=x
  show h'.get? a=some { cls:=.none,data:=.fields ps }
  exact k a _ (.inl rfl) e
 | met f y =>
  have e:h.get? a=some (PySem.W.methodObj (.ref f) (.ref y)):=x
  show h'.get? a=some (PySem.W.methodObj (.ref f) (.ref y))
  exact k a _ (.inl rfl) e
 | ext φ=>obtain ⟨p,⟨o,e⟩,st⟩:=x; exact ⟨st _ _ p fun o q=>k _ _ (.inl rfl) q,⟨o,k _ _ (.inl rfl) e⟩,st⟩
theorem HOk.lt (x:HOk P w H h) (e:H a=some o):a < h.objs.size:=(x a o e).lt
theorem HOk.fresh (x:HOk P w H h) (e:h.objs.size<=a):H a=none:=by
 cases q:H a with
 | none=>rfl
 | some u=>exact absurd (Nat.lt_of_lt_of_le (x.lt q) e) (Nat.lt_irrefl _)
theorem HOk.kept (x:HOk P w H h) (k:∀ b u,h.get? b=some u->h'.get? b=some u):HOk P w H h':=fun a o e =>
 (x a o e).stay (fun b u _ q=>k b u q) (fun _ q=>q) fun _ _ q=>q
theorem HOk.laid (x:HOk P w H h) (k:∀ b u,h.get? b=some u->h'.get? b=some u) (hp:h.objs.size<=a) (new:ObjOk P w (upd H a o) h' a o):HOk P w (upd H a o) h':=fun b u e=>by
 have hn:=x.fresh hp
 by_cases hb:b=a
 ·subst hb; rw [upd_same] at e; cases e; exact new
 ·rw [upd_ne hb] at e
  exact (x b u e).stay (fun c v _ q=>k c v q) (fun c q=>by rw [upd_ne (ne_of_none q hn)]; exact q) fun c xs q=>by rw [upd_ne (ne_of_none q hn)]; exact q
end
def Rd (H:Hp) (a:Addr) (u:HO):Prop:=H a=some u∨∃ o,H a=some (.frz o u)
theorem Rd.of {H:Hp}{a:Addr}{u:HO}(h:H a=some u):Rd H a u:=.inl h
theorem Rd.ok {P:Program}{w:World}{H:Hp}{h:Heap}{a:Addr}{u:HO}(r:Rd H a u) (x:HOk P w H h):ObjOk P w H h a u:=by
 rcases r with r | ⟨o,r⟩
 ·exact x a u r
 ·obtain ⟨_,q⟩:=x a _ r
  exact q
def Mut:Option HO->Prop
 | some (.lst _)=>True
 | some (.dK _)=>True
 | some (.dT _)=>True
 | some (.set _ _)=>True
 | some (.ins _ _ _)=>True
 | some (.ext _)=>True
 | _=>False
section
variable {P:Program}{w:World}{H:Hp}{h h':Heap}{x e:Addr}{o':HO}
theorem HOk.write (ok:HOk P w H h) (mu:Mut (H x)) (he:e=x∨H e=some (.own x)) (k:∀ b u,b≠e->h.get? b=some u->h'.get? b=some u) (heo:∃ u,h'.get? e=some u)
  (new:ObjOk P w (upd H x o') h' x o'):HOk P w (upd H x o') h':=fun b u q=>by
 have nown:∀ c y,H c=some (.own y)->c≠x:=fun c y r z=>by subst z; rw [r] at mu; exact mu
 have ntup:∀ c xs,H c=some (.tup xs)->c≠x:=fun c xs r z=>by subst z; rw [r] at mu; exact mu
 by_cases hb:b=x
 ·subst hb; rw [upd_same] at q; cases q; exact new
 ·rw [upd_ne hb] at q
  by_cases hbe:b=e
  ·have q':H b=some (.own x):=by
    rcases he with z | z
    ·exact absurd (hbe.trans z) hb
    ·rw [hbe]; exact z
   rw [q] at q'; cases q'
   obtain ⟨v,hv⟩:=heo
   exact ⟨v,by rw [hbe]; exact hv⟩
  ·refine (ok b u q).stay (fun c v hc r=>k c v ?_ r) (fun c r=>by rw [upd_ne (nown c b r)]; exact r) fun c xs r=>by rw [upd_ne (ntup c xs r)]; exact r
   rcases hc with rfl | hc
   ·exact hbe
   ·rintro rfl
    rcases he with z | z
    ·exact nown c b hc z
    ·rw [hc] at z; cases z; exact hb rfl
end
structure Un (fs ex:List Addr) (H H':Hp) (h h':Heap):Prop where
 keep:∀ b o,h.get? b=some o->H b=none->b∉fs->b∉ex->h'.get? b=some o
 slot:∀ b o,h.get? b=some o->H b=none->b∈fs->b∉ex->∃ sl,h'.get? b=some { o with slots:=sl }
 free:∀ b o,h.get? b=some o->H b=none->b∉ex->H' b=none
 there:∀ b o,h.get? b=some o->b∉ex->∃ o',h'.get? b=some o'
 tups:∀ b xs,H b=some (.tup xs)->H' b=some (.tup xs)
 frzs:∀ b o u,H b=some (.frz o u)->H' b=some (.frz o u)
 tbls:∀ b ps,H b=some (.tbl ps)->∃ more,H' b=some (.tbl (ps ++ more))
section
variable {fs fs' ex ex':List Addr}{H H1 H2:Hp}{h h1 h2 h':Heap}{a x e:Addr}{o:HO}
theorem Un.any (u:Un fs ex H H1 h h1) {b:Addr}{ob:Obj}(q:h.get? b=some ob) (n:H b=none) (hx:b∉ex):∃ sl,h1.get? b=some { ob with slots:=sl }:=by
 by_cases hb:b∈fs
 ·exact u.slot b ob q n hb hx
 ·exact ⟨ob.slots,u.keep b ob q n hb hx⟩
theorem Un.trans (a:Un fs ex H H1 h h1) (b:Un fs ex H1 H2 h1 h2):Un fs ex H H2 h h2 where
 keep:=fun c ob q n hc hx=>b.keep c ob (a.keep c ob q n hc hx) (a.free c ob q n hx) hc hx
 slot:=fun c ob q n hc hx=>by
  obtain ⟨sl,e1⟩:=a.slot c ob q n hc hx
  obtain ⟨sl',e2⟩:=b.slot c _ e1 (a.free c ob q n hx) hc hx
  exact ⟨sl',e2⟩
 free:=fun c ob q n hx=>by
  obtain ⟨o',e1⟩:=a.there c ob q hx
  exact b.free c o' e1 (a.free c ob q n hx) hx
 there:=fun c ob q hx=>by
  obtain ⟨o',e1⟩:=a.there c ob q hx
  exact b.there c o' e1 hx
 tups:=fun c xs q=>b.tups c xs (a.tups c xs q)
 frzs:=fun c ob xs q=>b.frzs c ob xs (a.frzs c ob xs q)
 tbls:=fun c ps q=>by
  obtain ⟨m1,e1⟩:=a.tbls c ps q
  obtain ⟨m2,e2⟩:=b.tbls c _ e1
  exact ⟨m1 ++ m2,by rw [e2,Array.append_assoc]⟩
theorem Un.kept (k:∀ b u,h.get? b=some u->h'.get? b=some u):Un fs ex H H h h' :=
 ⟨fun b ob q _ _ _=>k b ob q,fun b ob q _ _ _=>⟨ob.slots,k b ob q⟩,fun _ _ _ n _=>n,fun b ob q _=>⟨ob,k b ob q⟩,fun _ _ q=>q,fun _ _ _ q=>q,fun _ ps q=>⟨#[],by rw [q]; simp⟩⟩
theorem Un.refl:Un fs ex H H h h:=Un.kept fun _ _ q=>q
theorem Un.laid (k:∀ b u,h.get? b=some u->h'.get? b=some u) (hp:h.objs.size<=a) (hn:H a=none):Un fs ex H (upd H a o) h h' where
 keep:=fun b u q _ _ _=>k b u q
 slot:=fun b u q _ _ _=>⟨u.slots,k b u q⟩
 free:=fun b u q n _=>by rw [upd_ne (Nat.ne_of_lt (Nat.lt_of_lt_of_le (Heap.lt_size q) hp))]; exact n
 there:=fun b u q _=>⟨u,k b u q⟩
 tups:=fun b xs q=>by rw [upd_ne (ne_of_none q hn)]; exact q
 frzs:=fun b u xs q=>by rw [upd_ne (ne_of_none q hn)]; exact q
 tbls:=fun b ps q=>⟨#[],by rw [upd_ne (ne_of_none q hn),q]; simp⟩
theorem Un.write (mu:Mut (H x)) (he:e=x∨H e=some (.own x)) (k:∀ b u,b≠e->h.get? b=some u->h'.get? b=some u) (heo:∃ u,h'.get? e=some u):Un fs ex H (upd H x o) h h':=by
 have hx:∀ b,H b=none->b≠x:=fun b n z=>by subst z; rw [n] at mu; exact mu
 have hb:∀ b,H b=none->b≠e:=fun b n z=>by
  subst z
  rcases he with r | r
  ·exact hx b n r
  ·rw [n] at r; cases r
 have hm:∀ b u,H b=some u->¬ Mut (some u)->b≠x:=fun b u q nm z=>by subst z; rw [q] at mu; exact nm mu
 refine ⟨fun b u q n _ _=>k b u (hb b n) q,fun b u q n _ _=>⟨u.slots,k b u (hb b n) q⟩,fun b u q n _=>by rw [upd_ne (hx b n)]; exact n,fun b u q _=>?_,
  fun b xs q=>by rw [upd_ne (hm b _ q fun z=>z)]; exact q,fun b u xs q=>by rw [upd_ne (hm b _ q fun z=>z)]; exact q,fun b ps q=>⟨#[],by rw [upd_ne (hm b _ q fun z=>z),q]; simp⟩⟩
 by_cases hbe:b=e
 ·subst hbe; exact heo
 ·exact ⟨u,k b u hbe q⟩
theorem Un.mono (u:Un fs ex H H1 h h1) (hs:∀ b∈fs,b∈fs') (hx:∀ b∈ex,b∈ex'):Un fs' ex' H H1 h h1 :=
 ⟨fun b ob q n hb he=>u.keep b ob q n (fun z=>hb (hs b z)) fun z=>he (hx b z),fun _ _ q n _ he=>u.any q n fun z=>he (hx _ z),fun b ob q n he=>u.free b ob q n fun z=>he (hx b z),fun b ob q he=>u.there b ob q fun z=>he (hx b z),u.tups,u.frzs,u.tbls⟩
end
def trk (h:Heap) (H:Hp):List Addr:=(List.range h.objs.size).filter fun a=>(H a).isSome
def hidT (h:Heap) (H:Hp):Heap:=PySem.W.hideAll h (trk h H)
theorem hidT_size (h:Heap) (H:Hp):(hidT h H).objs.size=h.objs.size:=PySem.W.hideAll_size _ _
theorem hidT_get {h:Heap}{H:Hp}{b:Addr}{o:Obj}(e:h.get? b=some o) (n:H b=none):(hidT h H).get? b=some o :=
 PySem.W.hideAll_get _ e fun hm=>by
  have q:(H b).isSome=true:=(List.mem_filter.mp hm).2
  rw [n] at q; simp at q
theorem of_hidT {h:Heap}{H:Hp}{b:Addr}{o:Obj}(e:(hidT h H).get? b=some o):h.get? b=some o/\H b=none:=by
 have e':h.get? b=some o:=PySem.W.of_hideAll (trk h H) e
 refine ⟨e',?_⟩
 cases q:H b with
 | none=>rfl
 | some x =>
  have hm:b∈trk h H:=List.mem_filter.mpr ⟨List.mem_range.mpr (Heap.lt_size e'),by simp [q]⟩
  have z:(hidT h H).get? b=none:=PySem.W.hideAll_none (trk h H) hm
  rw [z] at e; cases e
def allNews (g h:Heap) (L:Addr):List (Addr×Obj):=(List.range h.objs.size).filterMap fun a=>if a=L∨(g.get? a).isSome=true then none else (h.get? a).map fun o=>(a,o)
def rest (g h:Heap) (L d:Addr):List (Addr×Obj):=(allNews g h L).filter fun p=>decide (p.1≠d)
end L2
namespace L2
open PySem PySem.Spec PyProof.Rows
structure Mod (K:PySem.W.Frag) (mg:Str->Option Value) (base:Heap):Prop where
 kin:K.In base
 glob:base.Ns mainGlobals mg
 blt:∃ mb,base.Ns builtinsNs mb/\∀ x:Str,x ≠ "__name__" -> mb x=bootBuiltins x
 nolimit:base.NoLimit
structure Cx where
 prog:Program
 w:World
 K:PySem.W.Frag
 mg:Str->Option Value
 base:Heap
 A:Around
 N:List Str
 s₀:Shared
 H₀:Hp
 env:Env
 outer:List Env
 stack:List Env
 ex:List Addr
 fn:Str->Bool
 calm:Bool
 pn:List (Addr×Obj)
 xe:Value->Shared->Prop
def frs (l:List Env):List Addr:=l.filterMap (·.frame)
abbrev Cx.fs (X:Cx):List Addr:=frs X.outer
def Vis (sc:Scope) (x:Str):Prop:=sc.names.lookup x=some .local∨sc.names.lookup x=some .cell∨sc.names.lookup x=some .free
def Loc (sc:Scope) (x:Str):Prop:=sc.names.lookup x=some .local∨sc.names.lookup x=some .cell
def Look (env:Env) (h:Heap) (m:Str->Option Value) (x:Str) (u:Value):Prop :=
 (env.kindOf x=some .local/\m x=some u)∨((env.kindOf x=some .cell∨env.kindOf x=some .free)/\∃ c,env.cells.lookup x=some c/\h.IsCell c (some u))
structure Cx.Ok (X:Cx):Prop where
 mod:Mod X.K X.mg X.base
 kind:X.env.scope.kind=.function
 glob:X.env.globals=mainGlobals
 blt:X.env.builtins=builtinsNs
 above:X.s₀.heap.objs.size<=X.env.locals
 inj:∀ x y c,X.env.cells.lookup x=some c->X.env.cells.lookup y=some c->x=y
 has:∀ x,(X.env.kindOf x=some .cell∨X.env.kindOf x=some .free)->∃ c,X.env.cells.lookup x=some c
 cab:∀ x c,X.fn x=true->X.env.cells.lookup x=some c->X.s₀.heap.objs.size<=c
 hd:X.calm=true->X.A.handled=none
 frames:X.A.frames=some X.stack
 stk:X.stack=X.outer∨(X.stack=X.env :: X.outer/\X.env.frame=some X.env.locals)
 exf:∀ b∈X.ex,b≠X.env.locals/\∀ x c,X.env.cells.lookup x=some c->c≠b
 bs:∀ b o,X.base.get? b=some o->X.s₀.heap.get? b=some o/\X.H₀ b=none
 bsz:X.base.objs.size<=X.s₀.heap.objs.size
 noex:∀ b o,X.base.get? b=some o->b∉X.ex
 exfs:∀ b∈X.ex,b∉X.fs
 funs:X.s₀.heap.FunFrames X.base X.outer
 frf:∀ b∈X.fs,X.H₀ b=none
structure Inv (X:Cx) (pins:List (Addr×Obj)) (σ:List (Option V)) (H:Hp) (s:Shared):Prop where
 ok:X.Ok
 os:s.os=X.s₀.os
 bare:AllBare s.gens
 base:Un X.fs X.ex X.H₀ H X.s₀.heap s.heap
 loc:∃ m,s.heap.Ns X.env.locals m/\∀(i:Nat) (x:Str) (v:V),X.N[i]? = some x->σ[i]? = some (some v)->Vis X.env.scope x->∃ u,RelV v u/\Look X.env s.heap m x u
 cell:∀ x c,X.env.cells.lookup x=some c->∃ v,s.heap.IsCell c v
 free:H X.env.locals=none
 freeC:∀ x c,X.env.cells.lookup x=some c->H c=none
 pin:∀ p∈X.pn ++ pins,s.heap.get? p.1=some p.2/\H p.1=none/\p.1≠X.env.locals/\p.1∉X.fs/\∀ v,p.2.data≠.cell v
 hok:HOk X.prog X.w H s.heap
 len:σ.length=X.N.length
section
variable {X:Cx}{pins:List (Addr×Obj)}{σ:List (Option V)}{H H':Hp}{s:Shared}{h':Heap}
theorem Cx.Ok.nofr (ok:X.Ok) {b:Addr}{o:Obj}(e:X.base.get? b=some o):b∉X.fs:=fun hb=>by
 have:=(ok.funs.mem hb).1
 rw [e] at this; cases this
theorem Inv.bs (I:Inv X pins σ H s):∀ b o,X.base.get? b=some o->s.heap.get? b=some o/\H b=none:=fun b o e =>
 ⟨I.base.keep b o (I.ok.bs b o e).1 (I.ok.bs b o e).2 (I.ok.nofr e) (I.ok.noex b o e),I.base.free b o (I.ok.bs b o e).1 (I.ok.bs b o e).2 (I.ok.noex b o e)⟩
theorem Inv.bk (I:Inv X pins σ H s):∀ b o,X.base.get? b=some o->s.heap.get? b=some o:=fun b o e=>(I.bs b o e).1
theorem Inv.mod (I:Inv X pins σ H s):Mod X.K X.mg X.base:=I.ok.mod
theorem Inv.kIn (I:Inv X pins σ H s):X.K.In s.heap:=I.ok.mod.kin.keeps I.bk
theorem Inv.nolimit (I:Inv X pins σ H s):s.heap.NoLimit:=I.ok.mod.nolimit.keeps I.bk
theorem Inv.fr (I:Inv X pins σ H s):∃ m,Fr X.base X.env.locals s.heap m :=
 let ⟨m,hn,_⟩:=I.loc
 ⟨m,hn,I.bk,Nat.le_trans I.ok.bsz I.ok.above⟩
theorem Inv.lt (I:Inv X pins σ H s):X.env.locals < s.heap.objs.size:=let ⟨_,hn,_⟩:=I.loc; hn.lt
theorem Inv.sz (I:Inv X pins σ H s):X.s₀.heap.objs.size<=s.heap.objs.size:=Nat.le_trans I.ok.above (Nat.le_of_lt I.lt)
theorem Inv.nofs (I:Inv X pins σ H s) {a:Addr}(h:s.heap.objs.size<=a):a∉X.fs:=fun hb=>by
 obtain ⟨_,o,ho,_⟩:=I.ok.funs.mem hb
 exact absurd (Nat.lt_of_lt_of_le (Heap.lt_size ho) (Nat.le_trans I.sz h)) (Nat.lt_irrefl _)
theorem Inv.cne (I:Inv X pins σ H s):∀ x c,X.env.cells.lookup x=some c->c≠X.env.locals:=fun x c e z=>by
 obtain ⟨v,o,ho,hd⟩:=I.cell x c e
 obtain ⟨m,⟨o',es,ep,ho',hd',_⟩,_⟩:=I.loc
 rw [z,ho'] at ho; cases ho; rw [hd'] at hd; cases hd
theorem Inv.funs (I:Inv X pins σ H s):s.heap.FunFrames X.base X.outer:=by
 have all:∀(l:List Env),(∀ b∈frs l,b∈X.fs)->X.s₀.heap.FunFrames X.base l->s.heap.FunFrames X.base l:=by
  intro l
  induction l with
  | nil=>intro _ _; trivial
  | cons env r ih =>
   intro hs hl
   obtain ⟨hk,⟨L,o,hf,hn,ho,hd⟩,hr⟩:=hl
   have hL:L∈X.fs:=hs L (by unfold frs; rw [List.filterMap_cons,hf]; exact List.mem_cons_self)
   obtain ⟨sl,e⟩:=I.base.slot L o ho (I.ok.frf L hL) hL fun z=>I.ok.exfs L z hL
   exact ⟨hk,⟨L,_,hf,hn,e,hd⟩,ih (fun b hb=>hs b (by unfold frs; rw [List.filterMap_cons,hf]; exact List.mem_cons_of_mem _ hb)) hr⟩
 exact all X.outer (fun _ hb=>hb) I.ok.funs
theorem Inv.stack (I:Inv X pins σ H s):s.heap.FunFrames X.base X.stack:=by
 rcases I.ok.stk with e | ⟨e,hf⟩
 ·rw [e]; exact I.funs
 ·rw [e]
  obtain ⟨m,hn,_⟩:=I.loc
  refine .cons (by rw [I.ok.kind]; decide) hf hn ?_ I.funs
  exact Heap.get?_none_of_le (Nat.le_trans I.ok.bsz I.ok.above)
theorem Inv.stkSub (I:Inv X pins σ H s):∀ b∈frs X.stack,b∈X.env.locals :: X.fs:=fun b hb=>by
 rcases I.ok.stk with e | ⟨e,hf⟩
 ·rw [e] at hb; exact List.mem_cons_of_mem _ hb
 ·rw [e] at hb
  unfold frs at hb
  rw [List.filterMap_cons,hf] at hb
  exact hb
theorem Inv.stkFree (I:Inv X pins σ H s):∀ b∈frs X.stack,H b=none:=fun b hb=>by
 rcases List.mem_cons.mp (I.stkSub b hb) with e | hb
 ·rw [e]; exact I.free
 ·obtain ⟨_,o,ho,_⟩:=I.ok.funs.mem hb
  exact I.base.free b o ho (I.ok.frf b hb) fun z=>I.ok.exfs b z hb
theorem Inv.step {g':Array GenState}{t':Nat}{d':Drawn}{ch:List Addr}(I:Inv X pins σ H s)
  (hch:∀ b∈ch,(b∈X.ex∨X.s₀.heap.objs.size<=b)/\b≠X.env.locals/\(∀ x c,X.env.cells.lookup x=some c->c≠b)/\∀ p∈X.pn ++ pins,p.1≠b)
  (keep:∀ b o,b≠X.env.locals->b∉X.fs->b∉ch->s.heap.get? b=some o->H b=none->h'.get? b=some o)
  (slot:∀ b o,b≠X.env.locals->b∈X.fs->b∉ch->s.heap.get? b=some o->H b=none->∃ sl,h'.get? b=some { o with slots:=sl }) (free:∀ b o,b∉ch->s.heap.get? b=some o->H b=none->H' b=none)
  (there:∀ b o,b∉ch->s.heap.get? b=some o->∃ o',h'.get? b=some o')
  (tups:∀ b xs,H b=some (.tup xs)->H' b=some (.tup xs)) (frzs:∀ b o u,H b=some (.frz o u)->H' b=some (.frz o u)) (tbls:∀ b ps,H b=some (.tbl ps)->∃ more,H' b=some (.tbl (ps ++ more)))
  (ns:∀ m,s.heap.Ns X.env.locals m->h'.Ns X.env.locals m) (hok:HOk X.prog X.w H' h') (hg:AllBare g') :
  Inv X pins σ H' { s with heap:=h',gens:=g',drawn:=d',toks:=t' }:=by
 have neL:∀ b o,X.s₀.heap.get? b=some o->b≠X.env.locals:=fun b o e=>Nat.ne_of_lt (Nat.lt_of_lt_of_le (Heap.lt_size e) I.ok.above)
 have neC:∀ b o,X.s₀.heap.get? b=some o->b∉X.ex->b∉ch:=fun b o e hx hb=>by
  rcases (hch b hb).1 with z | z
  ·exact hx z
  ·exact absurd (Nat.lt_of_lt_of_le (Heap.lt_size e) z) (Nat.lt_irrefl _)
 have cellK:∀ x c,X.env.cells.lookup x=some c->∀ v,s.heap.IsCell c v->h'.IsCell c v:=fun x c e v ⟨o,ho,hd⟩=>by
  have nch:c∉ch:=fun z=>(hch c z).2.2.1 x c e rfl
  by_cases hc:c∈X.fs
  ·obtain ⟨sl,q⟩:=slot c o (I.cne x c e) hc nch ho (I.freeC x c e)
   exact ⟨_,q,hd⟩
  ·exact ⟨o,keep c o (I.cne x c e) hc nch ho (I.freeC x c e),hd⟩
 refine ⟨I.ok,I.os,hg,⟨fun b o e n hb hx=>?_,fun b o e n hb hx=>?_,fun b o e n hx=>?_,fun b o e hx=>?_,fun b xs e=>tups b xs (I.base.tups b xs e),fun b o xs e=>frzs b o xs (I.base.frzs b o xs e),fun b ps e=>?_⟩,?_,fun x c e=>?_,?_,fun x c e=>?_,fun p hp=>?_,hok,I.len⟩
 ·exact keep b o (neL b o e) hb (neC b o e hx) (I.base.keep b o e n hb hx) (I.base.free b o e n hx)
 ·obtain ⟨sl,e1⟩:=I.base.slot b o e n hb hx
  obtain ⟨sl',e2⟩:=slot b _ (neL b o e) hb (neC b o e hx) e1 (I.base.free b o e n hx)
  exact ⟨sl',e2⟩
 ·obtain ⟨o',e1⟩:=I.base.there b o e hx
  exact free b o' (neC b o e hx) e1 (I.base.free b o e n hx)
 ·obtain ⟨o',e1⟩:=I.base.there b o e hx
  exact there b o' (neC b o e hx) e1
 ·obtain ⟨m1,e1⟩:=I.base.tbls b ps e
  obtain ⟨m2,e2⟩:=tbls b _ e1
  exact ⟨m1 ++ m2,by rw [e2,Array.append_assoc]⟩
 ·obtain ⟨m,hn,hl⟩:=I.loc
  refine ⟨m,ns m hn,fun i x v e1 e2 e3=>?_⟩
  obtain ⟨u,r,l⟩:=hl i x v e1 e2 e3
  refine ⟨u,r,?_⟩
  rcases l with l | ⟨k,c,e,z⟩
  ·exact .inl l
  ·exact .inr ⟨k,c,e,cellK x c e _ z⟩
 ·obtain ⟨v,z⟩:=I.cell x c e
  exact ⟨v,cellK x c e v z⟩
 ·obtain ⟨m,⟨o,_,_,ho,_⟩,_⟩:=I.loc
  exact free _ o (fun z=>(hch _ z).2.1 rfl) ho I.free
 ·obtain ⟨v,o,ho,hd⟩:=I.cell x c e
  exact free c o (fun z=>(hch c z).2.2.1 x c e rfl) ho (I.freeC x c e)
 ·obtain ⟨e,n,ne,nf,d⟩:=I.pin p hp
  have nch:p.1∉ch:=fun z=>(hch p.1 z).2.2.2 p hp rfl
  exact ⟨keep p.1 p.2 ne nf nch e n,free p.1 p.2 nch e n,ne,nf,d⟩
theorem Inv.un {t':Nat}(I:Inv X pins σ H s) (u:Un X.fs [] H H' s.heap h') (hok:HOk X.prog X.w H' h'):Inv X pins σ H' { s with heap:=h',toks:=t' }:=by
 obtain ⟨m,⟨o,es,ep,ho,r⟩,_⟩:=id I.loc
 obtain ⟨sl,hL⟩:=u.any ho I.free (by simp)
 exact I.step (g':=s.gens) (d':=s.drawn) (ch:=[]) (fun _ z=>nomatch z) (fun b o _ hb _ e n=>u.keep b o e n hb (by simp)) (fun b o _ hb _ e n=>u.slot b o e n hb (by simp)) (fun b o _ e n=>u.free b o e n (by simp)) (fun b o _ e=>u.there b o e (by simp)) u.tups u.frzs u.tbls (fun m' hm=>by
  obtain ⟨o',es',ep',ho',r'⟩:=hm
  rw [ho] at ho'; cases ho'
  exact ⟨_,es',ep',hL,r'⟩) hok I.bare
theorem Inv.call {g':Array GenState}{t':Nat}{d':Drawn}{ch:List Addr}(I:Inv X pins σ H s) (u:Un (frs X.stack) ch H H' s.heap h') (hok:HOk X.prog X.w H' h') (hg:AllBare g')
  (hch:∀ b∈ch,(b∈X.ex∨X.s₀.heap.objs.size<=b)/\b≠X.env.locals/\(∀ x c,X.env.cells.lookup x=some c->c≠b)/\∀ p∈X.pn ++ pins,p.1≠b) :
  Inv X pins σ H' { s with heap:=h',gens:=g',drawn:=d',toks:=t' }:=by
 obtain ⟨m,⟨o,es,ep,ho,r⟩,_⟩:=id I.loc
 obtain ⟨sl,hL⟩:=u.any ho I.free fun z=>(hch _ z).2.1 rfl
 exact I.step (ch:=ch) hch (fun b o hL hb hc e n=>u.keep b o e n (fun z=>(List.mem_cons.mp (I.stkSub b z)).elim hL hb) hc) (fun b o _ _ hc e n=>u.any e n hc) (fun b o hc e n=>u.free b o e n hc) (fun b o hc e=>u.there b o e hc) u.tups u.frzs u.tbls (fun m' hm=>by
  obtain ⟨o',es',ep',ho',r'⟩:=hm
  rw [ho] at ho'; cases ho'
  exact ⟨_,es',ep',hL,r'⟩) hok hg
theorem Inv.turned {t':Nat}{it:Addr}(I:Inv X pins σ H s) (k:∀ b o,b≠it->s.heap.get? b=some o->h'.get? b=some o) (hn:H it=none) (hL:it≠X.env.locals)
  (h1:it∈X.ex∨X.s₀.heap.objs.size<=it) (h2:∀ x c,X.env.cells.lookup x=some c->c≠it) (h3:∀ p∈X.pn ++ pins,p.1≠it):Inv X pins σ H { s with heap:=h',toks:=t' }:=by
 have nit:∀ b u,H b=some u->b≠it:=fun b u e z=>by rw [z,hn] at e; cases e
 refine I.step (g':=s.gens) (d':=s.drawn) (ch:=[it]) (fun b hb=>?_) (fun b o _ _ hc e _=>k b o (fun z=>hc (by simp [z])) e) (fun b o _ _ hc e _=>⟨o.slots,k b o (fun z=>hc (by simp [z])) e⟩) (fun _ _ _ _ n=>n)
  (fun b o hc e=>⟨o,k b o (fun z=>hc (by simp [z])) e⟩) (fun _ _ e=>e) (fun _ _ _ e=>e) (fun b ps e=>⟨#[],by rw [e]; simp⟩) (fun m hm=>?_) (fun b u e=>?_) I.bare
 ·have e:b=it:=by simpa using hb
  subst e
  exact ⟨h1,hL,h2,h3⟩
 ·obtain ⟨o,es,ep,ho,r⟩:=hm
  exact ⟨o,es,ep,k _ o (Ne.symm hL) ho,r⟩
 ·refine (I.hok b u e).stay (fun c v hc q=>k c v ?_ q) (fun _ q=>q) fun _ _ q=>q
  rcases hc with z | z
  ·rw [z]; exact nit b u e
  ·exact nit c _ z
theorem Inv.tok (I:Inv X pins σ H s) (t:Nat):Inv X pins σ H { s with toks:=t }:=I.un (h':=s.heap) (t':=t) Un.refl I.hok
theorem Inv.kept {t':Nat}(I:Inv X pins σ H s) (k:∀ b u,s.heap.get? b=some u->h'.get? b=some u):Inv X pins σ H { s with heap:=h',toks:=t' }:=I.un (Un.kept k) (I.hok.kept k)
theorem Inv.laid {a:Addr}{o:HO}{t':Nat}(I:Inv X pins σ H s) (k:∀ b u,s.heap.get? b=some u->h'.get? b=some u) (hp:s.heap.objs.size<=a) (new:ObjOk X.prog X.w (upd H a o) h' a o) :
  Inv X pins σ (upd H a o) { s with heap:=h',toks:=t' }:=I.un (Un.laid k hp (I.hok.fresh hp)) (I.hok.laid k hp new)
theorem Inv.write {x e:Addr}{o:HO}{t':Nat}(I:Inv X pins σ H s) (mu:Mut (H x)) (he:e=x∨H e=some (.own x)) (k:∀ b u,b≠e->s.heap.get? b=some u->h'.get? b=some u) (heo:∃ u,h'.get? e=some u)
  (new:ObjOk X.prog X.w (upd H x o) h' x o):Inv X pins σ (upd H x o) { s with heap:=h',toks:=t' }:=I.un (Un.write mu he k heo) (I.hok.write mu he k heo new)
theorem Inv.weak {σ':List (Option V)}(I:Inv X pins σ H s) (hl:σ'.length=σ.length) (w:∀(i:Nat) v,σ'[i]? = some (some v)->σ[i]? = some (some v)):Inv X pins σ' H s :=
 ⟨I.ok,I.os,I.bare,I.base,let ⟨m,hn,hl'⟩:=I.loc; ⟨m,hn,fun i x v e1 e2 e3=>hl' i x v e1 (w i v e2) e3⟩,I.cell,I.free,I.freeC,I.pin,I.hok,hl.trans I.len⟩
theorem Inv.pins_of {pins':List (Addr×Obj)}(I:Inv X pins σ H s) (h:∀ p∈pins',s.heap.get? p.1=some p.2/\H p.1=none/\p.1≠X.env.locals/\p.1∉X.fs/\∀ v,p.2.data≠.cell v):Inv X pins' σ H s :=
 ⟨I.ok,I.os,I.bare,I.base,I.loc,I.cell,I.free,I.freeC,fun p hp=>(List.mem_append.mp hp).elim (fun z=>I.pin p (List.mem_append_left _ z)) (h p),I.hok,I.len⟩
theorem nodup_ix {N:List Str}(hN:N.Nodup) {i j:Nat}{x:Str}(a:N[i]? = some x) (b:N[j]? = some x):i=j:=by
 obtain ⟨h1,e1⟩:=List.getElem?_eq_some_iff.mp a
 obtain ⟨h2,e2⟩:=List.getElem?_eq_some_iff.mp b
 exact (List.getElem_inj hN).mp (e1.trans e2.symm)
theorem store_ok2 {M:Model}{A:Around}{E:Value->Shared->Prop}{i:Nat}{x:Str}{v:V}{u:Value}{Q:Unit->Shared->Prop}(I:Inv X pins σ H s) (hN:X.N.Nodup) (hi:X.N[i]? = some x) (hx:Loc X.env.scope x) (r:RelV v u)
  (h:∀ s',Inv X pins (σ.set i (some v)) H s'->(∃ a,Heap.SameBut a s.heap s'.heap/\(a=X.env.locals∨X.env.cells.lookup x=some a))->Q () s') (hf:X.fn x=true∨X.env.scope.names.lookup x=some .local:=by first | exact .inl rfl | exact .inr rfl | assumption):wpAny M A (storeName X.env x u) Q E s:=by
 obtain ⟨m,hn,hl⟩:=id I.loc
 have hcls:(X.env.scope.kind == .class || (X.env.scope.kind == .module && X.env.locals != X.env.globals))=false:=by rw [I.ok.kind]; rfl
 have hiσ:i < σ.length:=by rw [I.len]; exact (List.getElem?_eq_some_iff.mp hi).1
 have cne:=I.cne
 have tracked:∀{a:Addr} {h':Heap},(∃ o,s.heap.get? a=some o/\H a=none)->Heap.SameBut a s.heap h'->HOk X.prog X.w H h':=fun {a h'} ha hs b ob e=>by
  obtain ⟨_,_,hfree⟩:=ha
  refine (I.hok b ob e).stay (fun c w' hc q=>(hs.2 c ?_).trans q) (fun _ q=>q) fun _ _ q=>q
  rintro rfl
  rcases hc with rfl | hc
  ·rw [hfree] at e; cases e
  ·rw [hfree] at hc; cases hc
 rcases hx with hk | hk
 ·refine wpAny_storeName_local hk hn (fun h' hn' hs=>?_) hcls
  obtain ⟨oL,_,_,hoL,_⟩:=id hn
  refine h _ ⟨I.ok,I.os,I.bare,⟨fun b o e n hb hx=>?_,fun b o e n hb hx=>?_,I.base.free,fun b o e hx=>?_,I.base.tups,I.base.frzs,I.base.tbls⟩,⟨_,hn',fun j y v' e1 e2 e3=>?_⟩,fun y c e=>?_,I.free,I.freeC,fun p hp=>?_,tracked ⟨oL,hoL,I.free⟩ hs,by simpa using I.len⟩ ⟨_,hs,.inl rfl⟩
  ·exact (hs.2 b (Nat.ne_of_lt (Nat.lt_of_lt_of_le (Heap.lt_size e) I.ok.above))).trans (I.base.keep b o e n hb hx)
  ·obtain ⟨sl,e1⟩:=I.base.slot b o e n hb hx
   exact ⟨sl,(hs.2 b (Nat.ne_of_lt (Nat.lt_of_lt_of_le (Heap.lt_size e) I.ok.above))).trans e1⟩
  ·obtain ⟨o',e1⟩:=I.base.there b o e hx
   exact ⟨o',(hs.2 b (Nat.ne_of_lt (Nat.lt_of_lt_of_le (Heap.lt_size e) I.ok.above))).trans e1⟩
  ·by_cases hj:j=i
   ·subst hj
    rw [hi] at e1; cases e1
    rw [List.getElem?_set_self hiσ] at e2
    cases e2
    exact ⟨u,r,.inl ⟨hk,by simp⟩⟩
   ·rw [List.getElem?_set_ne (Ne.symm hj)] at e2
    obtain ⟨u',r',q⟩:=hl j y v' e1 e2 e3
    refine ⟨u',r',?_⟩
    rcases q with ⟨k,e⟩ | ⟨k,c,e,z⟩
    ·refine .inl ⟨k,?_⟩
     have:y≠x:=fun e=>hj (nodup_ix hN e1 (e ▸ hi))
     simp [this,e]
    ·exact .inr ⟨k,c,e,z.sameBut hs (cne y c e)⟩
  ·obtain ⟨w',z⟩:=I.cell y c e
   exact ⟨w',z.sameBut hs (cne y c e)⟩
  ·obtain ⟨e,n,ne,nf,d⟩:=I.pin p hp
   exact ⟨(hs.2 p.1 ne).trans e,n,ne,nf,d⟩
 ·have hfn:X.fn x=true:=by
   rcases hf with z | z
   ·exact z
   ·rw [z] at hk; cases hk
  obtain ⟨c,hc⟩:=I.ok.has x (.inl hk)
  obtain ⟨w',z⟩:=I.cell x c hc
  refine wpAny_storeName_cell I.ok.kind hk hc z (fun h' hc' hs=>?_)
  obtain ⟨oc,hoc,hocd⟩:=id z
  refine h { s with heap:=h' } ⟨I.ok,I.os,I.bare,⟨fun b o e n hb hx=>?_,fun b o e n hb hx=>?_,I.base.free,fun b o e hx=>?_,I.base.tups,I.base.frzs,I.base.tbls⟩,⟨m,hn.sameBut hs (Ne.symm (cne x c hc)),fun j y v' e1 e2 e3=>?_⟩,fun y c' e=>?_,I.free,I.freeC,fun p hp=>?_,tracked ⟨oc,hoc,I.freeC x c hc⟩ hs,by simpa using I.len⟩ ⟨c,hs,.inr hc⟩
  ·exact (hs.2 b (Nat.ne_of_lt (Nat.lt_of_lt_of_le (Heap.lt_size e) (I.ok.cab x c hfn hc)))).trans (I.base.keep b o e n hb hx)
  ·obtain ⟨sl,e1⟩:=I.base.slot b o e n hb hx
   exact ⟨sl,(hs.2 b (Nat.ne_of_lt (Nat.lt_of_lt_of_le (Heap.lt_size e) (I.ok.cab x c hfn hc)))).trans e1⟩
  ·obtain ⟨o',e1⟩:=I.base.there b o e hx
   exact ⟨o',(hs.2 b (Nat.ne_of_lt (Nat.lt_of_lt_of_le (Heap.lt_size e) (I.ok.cab x c hfn hc)))).trans e1⟩
  ·by_cases hj:j=i
   ·subst hj
    rw [hi] at e1; cases e1
    rw [List.getElem?_set_self hiσ] at e2
    cases e2
    exact ⟨u,r,.inr ⟨.inl hk,c,hc,hc'⟩⟩
   ·rw [List.getElem?_set_ne (Ne.symm hj)] at e2
    obtain ⟨u',r',q⟩:=hl j y v' e1 e2 e3
    refine ⟨u',r',?_⟩
    rcases q with q | ⟨k,c',e,z'⟩
    ·exact .inl q
    ·refine .inr ⟨k,c',e,z'.sameBut hs ?_⟩
     rintro rfl
     exact hj (nodup_ix hN e1 (I.ok.inj _ _ _ e hc ▸ hi))
  ·by_cases hcc:c'=c
   ·subst hcc; exact ⟨_,hc'⟩
   ·obtain ⟨w2,z2⟩:=I.cell y c' e
    exact ⟨w2,z2.sameBut hs hcc⟩
  ·obtain ⟨e,n,ne,nf,d⟩:=I.pin p hp
   refine ⟨(hs.2 p.1 ?_).trans e,n,ne,nf,d⟩
   intro q
   rw [q,hoc] at e
   have q':oc=p.2:=Option.some.inj e
   exact d w' (by rw [<- q']; exact hocd)
theorem store_ok {M:Model}{A:Around}{E:Value->Shared->Prop}{i:Nat}{x:Str}{v:V}{u:Value}{Q:Unit->Shared->Prop}(I:Inv X pins σ H s) (hN:X.N.Nodup) (hi:X.N[i]? = some x) (hx:Loc X.env.scope x) (r:RelV v u)
  (h:∀ s',Inv X pins (σ.set i (some v)) H s'->Q () s') (hf:X.fn x=true∨X.env.scope.names.lookup x=some .local:=by first | exact .inl rfl | exact .inr rfl | assumption):wpAny M A (storeName X.env x u) Q E s :=
 store_ok2 I hN hi hx r (fun s' I' _=>h s' I') hf
theorem Inv.call' {s':Shared}{ch:List Addr}(I:Inv X pins σ H s) (ho:s'.os=s.os) (u:Un (frs X.stack) ch H H' s.heap s'.heap) (hok:HOk X.prog X.w H' s'.heap) (hg:AllBare s'.gens)
  (hch:∀ b∈ch,(b∈X.ex∨X.s₀.heap.objs.size<=b)/\b≠X.env.locals/\(∀ x c,X.env.cells.lookup x=some c->c≠b)/\∀ p∈X.pn ++ pins,p.1≠b):Inv X pins σ H' s':=by
 obtain ⟨h',g',d',t',o'⟩:=s'
 have e:o'=s.os:=ho
 subst e
 exact I.call (g':=g') (t':=t') (d':=d') u hok hg hch
end
abbrev XK:=Value->Option Addr->Hp->Prop
abbrev St:=List (Option V)
abbrev VK:=V->Hp->Prop
abbrev TE:=St->Hp->VK->Prop
abbrev TT:=St->Hp->(Bool->Hp->Prop)->Prop
abbrev TA:=St->Hp->(List V->Hp->Prop)->Prop
structure Ends where
 nx:St->Hp->Prop
 rt:VK
 bk:St->Hp->Prop:=fun _ _=>False
 ct:St->Hp->Prop:=fun _ _=>False
abbrev TS:=Ends->St->Hp->Prop
def EP (X:Cx) (pins:List (Addr×Obj)) (σ:St) (Q:VK) (u:Value) (s':Shared):Prop:=∃ v H',Inv X pins σ H' s'/\RelV v u/\Q v H'
def TP (X:Cx) (pins:List (Addr×Obj)) (σ:St) (Q:Bool->Hp->Prop) (b:Bool) (s':Shared):Prop:=∃ H',Inv X pins σ H' s'/\Q b H'
def AP (X:Cx) (pins:List (Addr×Obj)) (σ:St) (Q:List V->Hp->Prop) (us:List Value) (s':Shared):Prop:=∃ vs H',Inv X pins σ H' s'/\Vals vs us/\Q vs H'
def SP (X:Cx) (pins:List (Addr×Obj)) (D:Ends) (f:Flow) (s':Shared):Prop :=
 match f with
 | .next=>∃ σ' H',Inv X pins σ' H' s'/\D.nx σ' H'
 | .brk=>∃ σ' H',Inv X pins σ' H' s'/\D.bk σ' H'
 | .cont=>∃ σ' H',Inv X pins σ' H' s'/\D.ct σ' H'
 | .ret u=>∃ v σ' H',Inv X pins σ' H' s'/\RelV v u/\D.rt v H'
def PE (X:Cx) (e:Expr) (t:TE):Prop :=
 ∀(pins:List (Addr×Obj)) (s:Shared) (σ:St) (H:Hp) (Q:VK),Inv X pins σ H s->t σ H Q->wpAny (model X.prog X.w) X.A (eval e X.env) (EP X pins σ Q) X.xe s
def PT (X:Cx) (e:Expr) (t:TT):Prop :=
 ∀(pins:List (Addr×Obj)) (s:Shared) (σ:St) (H:Hp) (Q:Bool->Hp->Prop),Inv X pins σ H s->t σ H Q->wpAny (model X.prog X.w) X.A (isTrue e X.env (eval e X.env)) (TP X pins σ Q) X.xe s
def PW (X:Cx) (e:Expr) (t:TT):Prop :=
 ∀(whole:Sem Value) (pins:List (Addr×Obj)) (s:Shared) (σ:St) (H:Hp) (Q:Bool->Hp->Prop),Inv X pins σ H s->t σ H Q->wpAny (model X.prog X.w) X.A (isTrue e X.env whole) (TP X pins σ Q) X.xe s
theorem PW.pt {X:Cx}{e:Expr}{t:TT}(h:PW X e t):PT X e t:=h _
def PA (X:Cx) (es:List Expr) (t:TA):Prop :=
 ∀(pos:Pos) (pins:List (Addr×Obj)) (s:Shared) (σ:St) (H:Hp) (Q:List V->Hp->Prop),Inv X pins σ H s->t σ H Q->wpAny (model X.prog X.w) X.A (spliced (backTo pos (starEach es X.env))) (AP X pins σ Q) X.xe s
def PS (X:Cx) (st:Stmt) (t:TS):Prop :=
 ∀(pins:List (Addr×Obj)) (s:Shared) (σ:St) (H:Hp) (D:Ends),Inv X pins σ H s->t D σ H->wpAny (model X.prog X.w) X.A (exec st X.env) (SP X pins D) X.xe s
def PSs (X:Cx) (st:List Stmt) (t:TS):Prop :=
 ∀(pins:List (Addr×Obj)) (s:Shared) (σ:St) (H:Hp) (D:Ends),Inv X pins σ H s->t D σ H->wpAny (model X.prog X.w) X.A (execs st X.env) (SP X pins D) X.xe s
theorem thn {α:Type}{t:Sem α}{Q Q':α->Shared->Prop}{M:Model}{A:Around}{E:Value->Shared->Prop}{s:Shared}(h:wpAny M A t Q E s) (hQ:∀ a s,Q a s->Q' a s):wpAny M A t Q' E s:=wpAny_mono h hQ fun _ _ x=>x
end L2
namespace L2
open PySem PySem.Spec PyProof.Rows
section
variable {X:Cx}
theorem bin {a b:Expr}{ta tb:TE}(ha:PE X a ta) (hb:PE X b tb) {pins:List (Addr×Obj)}{s:Shared}{σ:St}{H:Hp}{R:V->V->Hp->Prop}(I:Inv X pins σ H s) (h:ta σ H fun x H1=>tb σ H1 fun y H2=>R x y H2)
  {α:Type} {Q:α->Shared->Prop} {f:Value->Value->Sem α}
  (hf:∀ v u s2 x y H2,Inv X pins σ H2 s2->RelV x v->RelV y u->R x y H2->wpAny (model X.prog X.w) X.A (f v u) Q X.xe s2) :
  wpAny (model X.prog X.w) X.A (eval a X.env) (fun v s₁=>wpAny (model X.prog X.w) X.A (eval b X.env) (fun u s₂=>wpAny (model X.prog X.w) X.A (f v u) Q X.xe s₂) X.xe s₁) X.xe s:=by
 refine thn (ha pins s σ H _ I h) fun v s1 ⟨x,H1,I1,r1,q1⟩=>?_
 refine thn (hb pins s1 σ H1 _ I1 q1) fun u s2 ⟨y,H2,I2,r2,q2⟩=>?_
 exact hf v u s2 x y H2 I2 r1 r2 q2
def tVar (i:Nat):TE:=fun σ H Q=>∃ v,σ[i]? = some (some v)/\Q v H
def tC (v:V):TE:=fun _ H Q=>Q v H
theorem pe_var {i:Nat}{x:Str}{pos:Pos}(hN:X.N[i]? = some x) (hv:Vis X.env.scope x) (hd:(x == ("__debug__" : Str))=false:=by decide) (hcd:(x == ("__classdict__" : Str))=false:=by decide):PE X (.Name x pos) (tVar i):=by
 intro pins s σ H Q I h
 obtain ⟨v,e,h⟩:=h
 obtain ⟨m,hn,hl⟩:=I.loc
 obtain ⟨u,r,l⟩:=hl i x v hN e hv
 have fin:EP X pins σ Q u s:=⟨v,H,I,r,h⟩
 rcases l with ⟨hk,hm⟩ | ⟨hk,c,hc,hcell⟩
 ·exact wpAny_Name (wpAny_loadName_local I.ok.kind hk hn hm fin) hd
 ·rcases hk with hk | hk
  ·exact wpAny_Name (wpAny_loadName_cell I.ok.kind hk hc hcell fin) hd
  ·exact wpAny_Name (wpAny_loadName_free I.ok.kind hk hc hcell fin hcd) hd
theorem pe_int {i j pos}:PE X (.Constant (.int i) j pos) (tC (.int i)):=fun _ _ _ H _ I h=>wpAny_Constant_int ⟨.int i,H,I.tok _,⟨_,rfl⟩,h⟩
theorem pe_bl {b j pos}:PE X (.Constant (.bool b) j pos) (tC (.bl b)):=fun _ _ _ H _ I h=>Constant_bool ⟨.bl b,H,I,rfl,h⟩
theorem pe_non {j pos}:PE X (.Constant .none j pos) (tC .non):=fun _ _ _ H _ I h=>Constant_none ⟨.non,H,I,rfl,h⟩
theorem pe_str {x j pos}:PE X (.Constant (.str x) j pos) (tC (.str x)):=fun _ _ _ H _ I h=>Calls.Constant_str ⟨.str x,H,I.tok _,⟨_,rfl⟩,h⟩
def Gl (X:Cx) (x:Str):Prop:=X.env.kindOf x=some .globalImplicit
theorem ld_glob {E:Value->Shared->Prop}{pins:List (Addr×Obj)}{s:Shared}{σ:St}{H:Hp}{x:Str}{u:Value}{pos:Pos}{Q:Value->Shared->Prop}(I:Inv X pins σ H s) (hg:Gl X x) (hm:X.mg x=some u) (h:Q u s)
  (hd:(x == ("__debug__" : Str))=false:=by decide):wpAny (model X.prog X.w) X.A (eval (.Name x pos) X.env) Q E s :=
 Calls.Name_function_global I.ok.kind hg (Calls.loadGlobal_global (by rw [I.ok.glob]; exact I.mod.glob.keeps I.bk) hm h) hd
theorem ld_blt {E:Value->Shared->Prop}{pins:List (Addr×Obj)}{s:Shared}{σ:St}{H:Hp}{x:Str}{u:Value}{pos:Pos}{Q:Value->Shared->Prop}(I:Inv X pins σ H s) (hg:Gl X x) (hm:X.mg x=none) (hv:bootBuiltins x=some u) (h:Q u s)
  (hn:x ≠ "__name__" := by decide) (hd:(x == ("__debug__" : Str))=false:=by decide):wpAny (model X.prog X.w) X.A (eval (.Name x pos) X.env) Q E s:=by
 obtain ⟨mb,h1,h2⟩:=I.mod.blt
 exact Calls.Name_function_global I.ok.kind hg (Calls.loadGlobal_builtin (by rw [I.ok.glob]; exact I.mod.glob.keeps I.bk) hm (by rw [I.ok.blt]; exact h1.keeps I.bk) ((h2 x hn).trans hv) h) hd
theorem pe_glob {x:Str}{v:V}{u:Value}{pos:Pos}(hg:Gl X x) (hm:X.mg x=some u) (r:RelV v u) (hd:(x == ("__debug__" : Str))=false:=by decide):PE X (.Name x pos) (tC v) :=
 fun _ _ _ H _ I h=>ld_glob I hg hm ⟨v,H,I,r,h⟩ hd
theorem pe_bltn {x:Str}{v:V}{u:Value}{pos:Pos}(hg:Gl X x) (hm:X.mg x=none) (hv:bootBuiltins x=some u) (r:RelV v u) (hn:x ≠ "__name__" := by decide) (hd:(x == ("__debug__" : Str))=false:=by decide):PE X (.Name x pos) (tC v) :=
 fun _ _ _ H _ I h=>ld_blt I hg hm hv ⟨v,H,I,r,h⟩ hn hd
variable {a b:Expr}{ta tb:TE}{pos:Pos}
def PC (X:Cx) (op:CmpOp) (a b:Expr) (t:TE):Prop :=
 ∀(pins:List (Addr×Obj)) (s:Shared) (σ:St) (H:Hp) (Q:VK),Inv X pins σ H s->t σ H Q ->
  wpAny (model X.prog X.w) X.A (eval a X.env) (fun v s₁=>wpAny (model X.prog X.w) X.A (eval b X.env) (fun u s₂=>wpAny (model X.prog X.w) X.A (compareOp op v u) (EP X pins σ Q) X.xe s₂) X.xe s₁) X.xe s
theorem nobehind (b:Expr) {op:CmpOp}(h:op≠.In) (h2:op≠.NotIn):behindInMarks op b=false:=by
 have e1:(op == CmpOp.In)=false:=by cases op <;> first | rfl | exact absurd rfl h
 have e2:(op == CmpOp.NotIn)=false:=by cases op <;> first | rfl | exact absurd rfl h2
 cases b <;> simp [behindInMarks,e1,e2]
def tB (t:TE):TT:=fun σ H Q=>t σ H fun x H1=>∃ c,x=.bl c/\Q c H1
theorem pt_cmp {op:CmpOp}{t:TE}(h:PC X op a b t) (h1:behindInMarks op b=false:=by first | exact nobehind _ (by decide) (by decide) | rfl):PT X (.Compare a [op] [b] pos) (tB t):=by
 intro pins s σ H Q I hw
 refine wpAny_isTrue_Compare1 (thn (h pins s σ H _ I hw) fun v s1 h1=>thn h1 fun u s2 h2=>thn h2 fun c s3 ⟨x,H1,I1,r1,q1⟩=>?_) h1
 obtain ⟨d,rfl,q⟩:=q1
 cases r1
 exact wpAny_truthy_bool ⟨H1,I1,q⟩
theorem pt_val {e:Expr}{t:TE}(h:PE X e t) (he:∀ whole,isTrue e X.env whole=(do let v <- whole; standAt e.pos; holding [v] (truthy v)):=by intro _; rfl):PT X e (tB t):=by
 intro pins s σ H Q I hw
 refine isTrue_plain (thn (h pins s σ H _ I hw) fun v s1 ⟨x,H1,I1,r1,q1⟩=>?_) (he _)
 obtain ⟨d,rfl,q⟩:=q1
 cases r1
 exact wpAny_truthy_bool ⟨H1,I1,q⟩
variable {tA tB':TT}{rest:List Expr}
def tAnd (t u:TT):TT:=fun σ H Q=>t σ H fun c H1=>if c=true then u σ H1 Q else Q false H1
def tOr (t u:TT):TT:=fun σ H Q=>t σ H fun c H1=>if c=true then Q true H1 else u σ H1 Q
def tNot (t:TT):TT:=fun σ H Q=>t σ H fun c H1=>Q (!c) H1
theorem pw_and1 (ha:PT X a tA):PW X (.BoolOp .And [a] pos) tA:=by
 intro wh pins s σ H Q I h
 refine isTrue_and (thn (ha pins s σ H Q I h) fun c s1 e=>?_)
 cases c with
 | true=>exact isTrue_and_nil e
 | false=>exact e
theorem pw_or1 (ha:PT X a tA):PW X (.BoolOp .Or [a] pos) tA:=by
 intro wh pins s σ H Q I h
 refine isTrue_or (thn (ha pins s σ H Q I h) fun c s1 e=>?_)
 cases c with
 | false=>exact isTrue_or_nil e
 | true=>exact e
theorem pw_and (ha:PT X a tA) (hb:PW X (.BoolOp .And (b :: rest) pos) tB'):PW X (.BoolOp .And (a :: b :: rest) pos) (tAnd tA tB'):=by
 intro wh pins s σ H Q I h
 refine isTrue_and (thn (ha pins s σ H _ I h) fun c s1 ⟨H1,I1,q1⟩=>?_)
 cases c with
 | true=>exact hb wh pins s1 σ H1 Q I1 q1
 | false=>exact ⟨H1,I1,q1⟩
theorem pw_or (ha:PT X a tA) (hb:PW X (.BoolOp .Or (b :: rest) pos) tB'):PW X (.BoolOp .Or (a :: b :: rest) pos) (tOr tA tB'):=by
 intro wh pins s σ H Q I h
 refine isTrue_or (thn (ha pins s σ H _ I h) fun c s1 ⟨H1,I1,q1⟩=>?_)
 cases c with
 | true=>exact ⟨H1,I1,q1⟩
 | false=>exact hb wh pins s1 σ H1 Q I1 q1
theorem pt_not (ha:PT X a tA):PT X (.UnaryOp .Not a pos) (tNot tA):=by
 intro pins s σ H Q I h
 exact isTrue_not (ha pins s σ H (fun c H1=>Q (!c) H1) I h)
def tAndV (ta tb:TE):TE:=fun σ H Q=>ta σ H fun x H1=>∃ c,x=.bl c/\if c=true then tb σ H1 Q else Q (.bl false) H1
theorem pe_one {op}{t:TE}(h:PE X a t):PE X (.BoolOp op [a] pos) t:=fun pins s σ H Q I hw=>BoolOp_one (h pins s σ H Q I hw)
theorem pe_and (ha:PE X a ta) (hb:PE X (.BoolOp .And (b :: rest) pos) tb):PE X (.BoolOp .And (a :: b :: rest) pos) (tAndV ta tb):=by
 intro pins s σ H Q I h
 refine BoolOp_and (thn (ha pins s σ H _ I h) fun v s1 ⟨x,H1,I1,r1,q1⟩=>?_)
 obtain ⟨c,rfl,q1⟩:=q1
 cases r1
 refine wpAny_truthy_bool ?_
 cases c with
 | true=>exact hb pins s1 σ H1 Q I1 q1
 | false=>exact ⟨.bl false,H1,I1,rfl,q1⟩
def tIf (t:TT) (ta tb:TE):TE:=fun σ H Q=>t σ H fun c H1=>if c=true then ta σ H1 Q else tb σ H1 Q
theorem pe_ifExp {c:Expr}(hc:PT X c tA) (ha:PE X a ta) (hb:PE X b tb):PE X (.IfExp c a b pos) (tIf tA ta tb):=by
 intro pins s σ H Q I h
 refine wpAny_IfExp (thn (hc pins s σ H _ I h) fun d s1 ⟨H1,I1,q1⟩=>?_)
 cases d with
 | true=>exact ha pins s1 σ H1 Q I1 q1
 | false=>exact hb pins s1 σ H1 Q I1 q1
end
end L2
namespace L2
open PySem PySem.Spec PyProof.Rows
def SqL (K:PySem.W.Frag) (H:Hp) (a:Addr) (xs:List V):Prop :=
 Rd H a (.lst xs) ∨
  ∃(o:Obj) (its:Array Value) (n:Nat),K.lookup a=some o/\o.cls=.type "list" /\ o.dict=none/\o.data=.seq its n/\its.size<=sizeLine/\Vals xs its.toList
def SqT (K:PySem.W.Frag) (H:Hp) (a:Addr) (xs:List V):Prop :=
 Rd H a (.tup xs) ∨
  ∃(o:Obj) (its:Array Value) (n:Nat),K.lookup a=some o/\o.cls=.type "tuple" /\ o.data=.seq its n/\its.size<=sizeLine/\Vals xs its.toList
def absV:Value->Option V
 | .none=>some .non
 | .bool b=>some (.bl b)
 | .int i _=>some (.int i)
 | .str x _=>some (.str x)
 | .bytes b _=>some (.byt b)
 | .float b _=>some (.flt b)
 | .ref a=>some (.ref a)
 | .type n=>some (.ty n)
 | _=>none
theorem RelV.abs {x:V}{u:Value}(r:RelV x u):absV u=some x:=by
 cases x with
 | non=>cases r; rfl
 | bl _=>cases r; rfl
 | int _=>obtain ⟨t,rfl⟩:=r; rfl
 | str _=>obtain ⟨t,rfl⟩:=r; rfl
 | byt _=>obtain ⟨t,rfl⟩:=r; rfl
 | flt _=>obtain ⟨t,rfl⟩:=r; rfl
 | ref _=>cases r; rfl
 | ty _=>cases r; rfl
theorem RelV.inj {x y:V}{u:Value}(r:RelV x u) (q:RelV y u):x=y:=Option.some.inj (r.abs.symm.trans q.abs)
theorem Vals.inj:∀{xs ys:List V}{us:List Value},Vals xs us->Vals ys us->xs=ys
 | _,_,_,.nil,.nil=>rfl
 | _,_,_,.cons r t,.cons r' t'=>by rw [r.inj r',Vals.inj t t']
section
variable {X:Cx}{pins:List (Addr×Obj)}{σ:St}{H:Hp}{s:Shared}{a:Addr}{xs ys:List V}
theorem SqL.of {K:PySem.W.Frag}(h:H a=some (.lst xs)):SqL K H a xs:=.inl (.inl h)
theorem SqT.of {K:PySem.W.Frag}(h:H a=some (.tup xs)):SqT K H a xs:=.inl (.inl h)
theorem Inv.list (I:Inv X pins σ H s) (h:SqL X.K H a xs):∃ its:List Value,Vals xs its/\PlainL s.heap a its.toArray/\xs.length<=sizeLine:=by
 rcases h with h | ⟨o,its,n,hk,hc,hd,hs,hz,r⟩
 ·obtain ⟨z,its,n,r,e⟩:=h.ok I.hok
  exact ⟨its,r,⟨_,n,e,rfl,rfl,rfl⟩,z⟩
 ·refine ⟨its.toList,r,⟨o,n,I.kIn a o hk,hc,hd,by simpa using hs⟩,?_⟩
  have e:=r.length
  simp only [Array.length_toList] at e
  omega
theorem Inv.tuple (I:Inv X pins σ H s) (h:SqT X.K H a xs):∃ its:List Value,Vals xs its/\IsTup s.heap a its.toArray/\xs.length<=sizeLine:=by
 rcases h with h | ⟨o,its,n,hk,hc,hs,hz,r⟩
 ·obtain ⟨z,its,r,p⟩:=h.ok I.hok
  exact ⟨its,r,p,z⟩
 ·refine ⟨its.toList,r,⟨o,I.kIn a o hk,hc,n,by simpa using hs⟩,?_⟩
  have e:=r.length
  simp only [Array.length_toList] at e
  omega
theorem Inv.list_inj (I:Inv X pins σ H s) (h:SqL X.K H a xs) (h':SqL X.K H a ys):xs=ys:=by
 obtain ⟨its,r,⟨o,n,e,_,_,d⟩,_⟩:=I.list h
 obtain ⟨its',r',⟨o',n',e',_,_,d'⟩,_⟩:=I.list h'
 rw [e] at e'; cases e'
 rw [d] at d'
 injection d' with d1 _
 have:its=its':=by simpa using congrArg Array.toList d1
 subst this
 exact r.inj r'
end
abbrev Cx.wish (X:Cx) (E:Value->Shared->Prop):Cx:={ X with xe:=E }
abbrev Cx.nox (X:Cx):Cx:=X.wish fun _ _=>False
theorem Cx.Ok.wish {X:Cx}(ok:X.Ok) (E:Value->Shared->Prop):(X.wish E).Ok :=
 ⟨ok.mod,ok.kind,ok.glob,ok.blt,ok.above,ok.inj,ok.has,ok.cab,ok.hd,ok.frames,ok.stk,ok.exf,ok.bs,ok.bsz,ok.noex,ok.exfs,ok.funs,ok.frf⟩
theorem Cx.Ok.unwish {X:Cx}{E:Value->Shared->Prop}(ok:(X.wish E).Ok):X.Ok :=
 ⟨ok.mod,ok.kind,ok.glob,ok.blt,ok.above,ok.inj,ok.has,ok.cab,ok.hd,ok.frames,ok.stk,ok.exf,ok.bs,ok.bsz,ok.noex,ok.exfs,ok.funs,ok.frf⟩
section
variable {X:Cx}{pins:List (Addr×Obj)}{σ:St}{H:Hp}{s:Shared}{E:Value->Shared->Prop}
theorem Inv.wish (I:Inv X pins σ H s) (E:Value->Shared->Prop):Inv (X.wish E) pins σ H s:=⟨I.ok.wish E,I.os,I.bare,I.base,I.loc,I.cell,I.free,I.freeC,I.pin,I.hok,I.len⟩
theorem Inv.unwish (I:Inv (X.wish E) pins σ H s):Inv X pins σ H s:=⟨I.ok.unwish,I.os,I.bare,I.base,I.loc,I.cell,I.free,I.freeC,I.pin,I.hok,I.len⟩
theorem SP.unwish {D:Ends}{f:Flow}{s':Shared}(h:SP (X.wish E) pins D f s'):SP X pins D f s':=by
 cases f with
 | next=>obtain ⟨σ',H',I,q⟩:=h; exact ⟨σ',H',I.unwish,q⟩
 | brk=>obtain ⟨σ',H',I,q⟩:=h; exact ⟨σ',H',I.unwish,q⟩
 | cont=>obtain ⟨σ',H',I,q⟩:=h; exact ⟨σ',H',I.unwish,q⟩
 | ret u=>obtain ⟨v,σ',H',I,r,q⟩:=h; exact ⟨v,σ',H',I.unwish,r,q⟩
theorem PE.nox {e:Expr}{t:TE}(h:PE X.nox e t):PE X e t:=fun pins s σ H Q I hw =>
 wpAny_mono (h pins s σ H Q (I.wish _) hw) (fun _ _ ⟨v,H',I',r,q⟩=>⟨v,H',I'.unwish,r,q⟩) fun _ _ z=>False.elim z
theorem PT.nox {e:Expr}{t:TT}(h:PT X.nox e t):PT X e t:=fun pins s σ H Q I hw =>
 wpAny_mono (h pins s σ H Q (I.wish _) hw) (fun _ _ ⟨H',I',q⟩=>⟨H',I'.unwish,q⟩) fun _ _ z=>False.elim z
theorem PSs.nox {st:List Stmt}{t:TS}(h:PSs X.nox st t):PSs X st t:=fun pins s σ H D I hw =>
 wpAny_mono (h pins s σ H D (I.wish _) hw) (fun _ _ q=>q.unwish) fun _ _ z=>False.elim z
end
section
variable {X:Cx}{st:Stmt}{rest:List Stmt}{t u:TS}{e:Expr}{te:TE}{pos:Pos}
def tNext:TS:=fun D σ H=>D.nx σ H
def tSeq (t u:TS):TS:=fun D σ H=>t { D with nx:=u D } σ H
theorem pss_nil:PSs X [] tNext:=fun _ _ σ H _ I h=>wpAny_execs_nil ⟨σ,H,I,h⟩
theorem pss_cons (h1:PS X st t) (h2:PSs X rest u):PSs X (st :: rest) (tSeq t u):=by
 intro pins s σ H D I h
 refine wpAny_execs_cons (thn (h1 pins s σ H { D with nx:=u D } I h) fun f s1 q=>?_)
 cases f with
 | next =>
  obtain ⟨σ',H',I',q⟩:=q
  exact h2 pins s1 σ' H' D I' q
 | ret v=>exact q
 | brk=>exact q
 | cont=>exact q
theorem pss_one (h1:PS X st t):PSs X [st] t:=by
 intro pins s σ H D I h
 refine wpAny_execs_cons (thn (h1 pins s σ H D I h) fun f s1 q=>?_)
 cases f with
 | next=>exact wpAny_execs_nil q
 | ret v=>exact q
 | brk=>exact q
 | cont=>exact q
theorem Inv.quiet {pins:List (Addr×Obj)}{σ:St}{H:Hp}{s:Shared}(I:Inv X pins σ H s):interactive X.env=false:=by simp [interactive,I.ok.kind]
def tDrop (te:TE):TS:=fun D σ H=>te σ H fun _ H1=>D.nx σ H1
theorem ps_expr (he:PE X e te) (hs:swapsWith e none pos.line X.env=pure false:=by rfl):PS X (.Expr e pos) (tDrop te):=by
 intro pins s σ H D I h
 exact wpAny_Expr_any (thn (he pins s σ H _ I h) fun v s1 ⟨x,H1,I1,r1,q1⟩=>⟨σ,H1,I1,q1⟩) I.quiet hs
def tRet (te:TE):TS:=fun D σ H=>te σ H D.rt
theorem ps_ret (he:PE X e te):PS X (.Return (some e) pos) (tRet te):=by
 intro pins s σ H D I h
 exact wpAny_Return_some (thn (he pins s σ H _ I h) fun v s1 ⟨x,H1,I1,r1,q1⟩=>⟨x,σ,H1,I1,r1,q1⟩)
def tRetN:TS:=fun D _ H=>D.rt .non H
theorem ps_retN:PS X (.Return none pos) tRetN:=fun _ _ σ H _ I h=>wpAny_Return_none ⟨.non,σ,H,I,rfl,h⟩
def tIfS (c:TT) (t u:TS):TS:=fun D σ H=>c σ H fun b H1=>if b=true then t D σ H1 else u D σ H1
theorem ps_if {c:Expr}{a b:List Stmt}{tc:TT}(hc:PT X c tc) (ha:PSs X a t) (hb:PSs X b u):PS X (.If c a b pos) (tIfS tc t u):=by
 intro pins s σ H D I h
 refine wpAny_If (thn (hc pins s σ H _ I h) fun d s1 ⟨H1,I1,q1⟩=>?_)
 cases d with
 | true=>exact ha pins s1 σ H1 D I1 q1
 | false=>exact hb pins s1 σ H1 D I1 q1
def tNever:TS:=fun _ _ _=>False
theorem ps_never:PS X st tNever:=fun _ _ _ _ _ _ h=>h.elim
end
abbrev TG:=V->St->Hp->(St->Hp->Prop)->Prop
abbrev TGs:=List V->St->Hp->(St->Hp->Prop)->Prop
def PG (X:Cx) (target:Expr) (t:TG):Prop :=
 ∀(pins:List (Addr×Obj)) (s:Shared) (σ:St) (H:Hp) (v:V) (u:Value) (Q:St->Hp->Prop),Inv X pins σ H s->RelV v u->t v σ H Q ->
  wpAny (model X.prog X.w) X.A (assign target X.env u) (fun _ s'=>∃ σ' H',Inv X pins σ' H' s'/\Q σ' H') X.xe s
def PGs (X:Cx) (ts:List Expr) (t:TGs):Prop :=
 ∀(pins:List (Addr×Obj)) (s:Shared) (σ:St) (H:Hp) (vs:List V) (us:List Value) (Q:St->Hp->Prop),Inv X pins σ H s->Vals vs us->t vs σ H Q ->
  wpAny (model X.prog X.w) X.A (assignInOrder ((assignEach ts X.env).map (·.2)) us) (fun _ s'=>∃ σ' H',Inv X pins σ' H' s'/\Q σ' H') X.xe s
section
variable {X:Cx}{pos:Pos}
def gName (i:Nat):TG:=fun v σ H Q=>Q (σ.set i (some v)) H
theorem pg_name {i:Nat}{x:Str}(hN:X.N.Nodup) (hi:X.N[i]? = some x) (hx:Loc X.env.scope x) (hf:X.fn x=true∨X.env.scope.names.lookup x=some .local:=by first | exact .inl rfl | exact .inr rfl | assumption):PG X (.Name x pos) (gName i):=by
 intro pins s σ H v u Q I r h
 exact wpAny_assign_Name (store_ok I hN hi hx r (fun s' I'=>⟨_,H,I',h⟩) hf)
def gNil:TGs:=fun vs σ H Q=>vs=[]/\Q σ H
def gCons (t:TG) (u:TGs):TGs:=fun vs σ H Q=>∃ v r,vs=v :: r/\t v σ H fun σ' H'=>u r σ' H' Q
theorem pgs_nil:PGs X [] gNil:=by
 intro pins s σ H vs us Q I r h
 obtain ⟨e,h⟩:=h
 subst e
 cases r
 exact assignInOrder_nil ⟨σ,H,I,h⟩
theorem pgs_cons {e:Expr}{es:List Expr}{t:TG}{u:TGs}(h1:PG X e t) (h2:PGs X es u)
  (hs:(assignEach (e :: es) X.env).map (·.2)=assign e X.env :: (assignEach es X.env).map (·.2):=by rfl):PGs X (e :: es) (gCons t u):=by
 intro pins s σ H vs us Q I r h
 obtain ⟨v,vr,e1,h⟩:=h
 subst e1
 cases r with
 | cons r rr =>
  rw [hs]
  refine assignInOrder_cons (thn (h1 pins s σ H _ _ _ I r h) fun _ s1 ⟨σ1,H1,I1,q1⟩=>?_)
  exact h2 pins s1 σ1 H1 _ _ Q I1 rr q1
def gTup (K:PySem.W.Frag) (n:Nat) (t:TGs):TG:=fun v σ H Q=>∃ a xs,v=.ref a/\SqT K H a xs/\xs.length=n/\t xs σ H Q
theorem pg_tup {es:List Expr}{k:Nat}{t:TGs}{n:Nat}(hc:X.calm=true) (h:PGs X es t)
  (hn:(assignEach es X.env).length=n:=by rfl) (hst:(assignEach es X.env).findIdx? (·.1)=none:=by rfl):PG X (.Tuple es k pos) (gTup X.K n t):=by
 intro pins s σ H v u Q I r hw
 obtain ⟨a,xs,e1,hq,hl,hw⟩:=hw
 subst e1
 cases r
 obtain ⟨its,rv,ht,hz⟩:=I.tuple hq
 refine assign_Tuple_tuple (I.ok.hd hc) ht (by simp [hn,<- hl,rv.length]) hst fun h' hx=>?_
 have I1:Inv X pins σ H { s with heap:=h' }:=I.kept (t':=s.toks) fun b o e=>hx b o (Nat.ne_of_lt (Heap.lt_size e)) e
 exact h pins _ σ H xs _ Q I1 (by simpa using rv) hw
def tAsg (te:TE) (g:TG):TS:=fun D σ H=>te σ H fun x H1=>g x σ H1 D.nx
theorem ps_asg {tg e:Expr}{te:TE}{g:TG}(he:PE X e te) (hg:PG X tg g) (hs:swapsWithSole [tg] e pos.line X.env=pure false:=by rfl) (hw:swappedStores [tg] e X.env=pure none:=by rfl)
  (h1:(assignEach [tg] X.env).map (·.2)=[assign tg X.env]:=by rfl):PS X (.Assign [tg] e pos) (tAsg te g):=by
 intro pins s σ H D I h
 refine wpAny_Assign_stores (thn (he pins s σ H _ I h) fun v s1 ⟨x,H1,I1,r1,q1⟩=>?_) hs hw
 rw [h1]
 exact thn (hg pins s1 σ H1 x v _ I1 r1 q1) fun _ s2 q=>q
theorem ps_set {i:Nat}{x:Str}{e:Expr}{te:TE}{pos':Pos}(hN:X.N.Nodup) (hi:X.N[i]? = some x) (hx:Loc X.env.scope x) (he:PE X e te) (hs:swapsWith e (some (.Name x pos')) pos.line X.env=pure false:=by rfl) (hf:X.fn x=true∨X.env.scope.names.lookup x=some .local:=by first | exact .inl rfl | exact .inr rfl | assumption) :
  PS X (.Assign [.Name x pos'] e pos) (tAsg te (gName i)):=by
 intro pins s σ H D I h
 refine wpAny_Assign_Name (thn (he pins s σ H _ I h) fun v s1 ⟨y,H1,I1,r1,q1⟩=>?_) hs
 exact store_ok I1 hN hi hx r1 (fun s2 I2=>⟨_,H1,I2,q1⟩) hf
end
section
variable {X:Cx}{pos:Pos}
def tWhile (c:TT) (tb:TS):TS:=fun D σ H=>∃ W:Nat->St->Hp->Prop,(∃ m,W m σ H)/\∀ m σ H,W m σ H ->
 c σ H fun b H1=>if b=true then ∃ N:St->Hp->Prop,(∀ σ' H',N σ' H'->∃ m',m' < m/\W m' σ' H')/\tb { D with nx:=N,ct:=N,bk:=D.nx } σ H1 else D.nx σ H1
theorem ps_while {c:Expr}{body:List Stmt}{tc:TT}{tb:TS}(hp:PassesOwn (model X.prog X.w) X.A X.env X.xe) (hc:PT X c tc) (hb:PSs X body tb):PS X (.While c body [] pos) (tWhile tc tb):=by
 intro pins s σ H D I h
 obtain ⟨W,⟨m0,w0⟩,turn⟩:=h
 refine wpAny_While (codeAny_whileLoop (fun n s'=>∃ σ' H',Inv X pins σ' H' s'/\W n σ' H') ?_ m0 ⟨σ,H,I,w0⟩)
 rintro n s1 ⟨σ1,H1,I1,w1⟩
 refine wpAny_passesOwn hp (thn (hc pins s1 σ1 H1 _ I1 (turn n σ1 H1 w1)) fun b s2 ⟨H2,I2,q2⟩=>?_)
 cases b with
 | true =>
  obtain ⟨N,hN,q2⟩:=q2
  rw [if_pos rfl]
  refine wpAny_passesOwn hp (thn (hb pins s2 σ1 H2 _ I2 q2) fun f s3 q3=>?_)
  cases f with
  | next =>
   obtain ⟨σ3,H3,I3,n3⟩:=q3
   obtain ⟨m',hm,w3⟩:=hN σ3 H3 n3
   exact ⟨m',hm,σ3,H3,I3,w3⟩
  | cont =>
   obtain ⟨σ3,H3,I3,n3⟩:=q3
   obtain ⟨m',hm,w3⟩:=hN σ3 H3 n3
   exact ⟨m',hm,σ3,H3,I3,w3⟩
  | brk=>exact q3
  | ret v=>exact q3
 | false =>
  rw [if_neg Bool.false_ne_true]
  exact wpAny_execs_nil ⟨σ1,H2,I2,q2⟩
end
structure It where
 go:Nat->Hp->Prop
 yld:Nat->Hp->V->Hp->Prop
 stop:Nat->Hp->Prop
def FpOk (X:Cx) (pins:List (Addr×Obj)) (H:Hp) (b:Addr):Prop :=
 H b=none/\b≠X.env.locals/\b∉X.fs/\(b∈X.ex∨X.s₀.heap.objs.size<=b)/\(∀ x c,X.env.cells.lookup x=some c->c≠b)/\∀ p∈X.pn ++ pins,p.1≠b
theorem Inv.fpOk {X:Cx}{pins:List (Addr×Obj)}{σ:St}{H H':Hp}{s:Shared}{b:Addr}(I:Inv X pins σ H s) (hb:s.heap.objs.size<=b) (hn:H' b=none):FpOk X pins H' b:=by
 refine ⟨hn,Nat.ne_of_gt (Nat.lt_of_lt_of_le I.lt hb),I.nofs hb,.inr (Nat.le_trans I.sz hb),fun x c e z=>?_,fun p hp z=>?_⟩
 ·obtain ⟨v,q⟩:=I.cell x c e
  exact absurd (Nat.lt_of_lt_of_le q.lt (by rw [z]; exact hb)) (Nat.lt_irrefl _)
 ·exact absurd (Nat.lt_of_lt_of_le (Heap.lt_size (I.pin p hp).1) (by rw [z]; exact hb)) (Nat.lt_irrefl _)
structure Turn (P:Program) (w:World) (K:PySem.W.Frag) (tg:Expr) (J:It) (fp:List Addr) (it:Addr) (tn:Nat->Heap->Prop):Prop where
 mem:it∈fp
 obj:∀ i h,tn i h->∀ b∈fp,∃ o,h.get? b=some o/\∀ v,o.data≠.cell v
 keep:∀ i h h',tn i h->(∀ b∈fp,∀ o,h.get? b=some o->h'.get? b=some o)->tn i h'
 item:∀(X:Cx),X.prog=P->X.w=w->X.K=K->X.calm=true->∀(i:Nat) (pins:List (Addr×Obj)) (s:Shared) (σ:St) (H:Hp) (E:Value->Shared->Prop),Inv X pins σ H s->(∀ b∈fp,FpOk X pins H b)->tn i s.heap->J.go i H ->
  wpAny (model P w) X.A (pyNext (.ref it)) (fun r s1=>∃ u,r=some u /\
   wpAny (model P w) X.A (letOwnedTupleGo tg (.ref it) u) (fun _ s2=>∃ x H',Inv X pins σ H' s2/\RelV x u/\J.yld i H x H'/\tn (i + 1) s2.heap/\∀ b∈fp,H' b=none) E s1) E s
 done:∀(X:Cx),X.prog=P->X.w=w->X.K=K->X.calm=true->∀(i:Nat) (pins:List (Addr×Obj)) (s:Shared) (σ:St) (H:Hp) (E:Value->Shared->Prop),Inv X pins σ H s->(∀ b∈fp,FpOk X pins H b)->tn i s.heap->J.stop i H ->
  wpAny (model P w) X.A (pyNext (.ref it)) (fun r s1=>r=none/\Inv X pins σ H s1) E s
 self:∀(A:Around) (i:Nat) (s:Shared) (Q:Value->Shared->Prop) (E:Value->Shared->Prop),tn i s.heap->Q (.ref it) s->wpAny (model P w) A (pyIter (.ref it)) Q E s
abbrev TI:=St->Hp->(It->Hp->Prop)->Prop
def PIE (X:Cx) (pins:List (Addr×Obj)) (σ:St) (tg:Expr) (R:It->Hp->Prop) (itv:Value) (s2:Shared):Prop :=
 ∃(it:Addr) (fp:List Addr) (tn:Nat->Heap->Prop) (J:It) (H':Hp),itv=.ref it/\Inv X pins σ H' s2/\Turn X.prog X.w X.K tg J fp it tn/\tn 0 s2.heap/\(∀ b∈fp,FpOk X pins H' b)/\R J H'
def PI (X:Cx) (tg iter:Expr) (wi:TI):Prop :=
 ∀(pins:List (Addr×Obj)) (s:Shared) (σ:St) (H:Hp) (R:It->Hp->Prop),Inv X pins σ H s->wi σ H R ->
  wpAny (model X.prog X.w) X.A (eval iter X.env) (fun v s1=>wpAny (model X.prog X.w) X.A (pyIter v) (PIE X pins σ tg R) X.xe s1) X.xe s
theorem go_of {M:Model}{A:Around}{E:Value->Shared->Prop}{s:Shared}{tg:Expr}{it:Addr}{u:Value}{o:Obj}{n:String}{vs:Array Value}{Q:Unit->Shared->Prop}(ho:s.heap.get? it=some o) (hc:o.cls=.type n) (hd:o.data=.fields vs)
  (hn:["enumerate", "zip", "dict_itemiterator", "dict_reverseitemiterator", "odict_iterator", "itertools.zip_longest", "itertools.pairwise"].contains n=false) (hQ:Q () s):wpAny M A (letOwnedTupleGo tg (.ref it) u) Q E s:=by
 unfold letOwnedTupleGo
 cases tg <;> first
  | exact wpAny_pure hQ
  | (cases u <;> first
    | exact wpAny_pure hQ
    | (refine wpAny_bind (wpAny_load ho ?_)
       rw [hc,hd]
       show wpAny M A (if (["enumerate", "zip", "dict_itemiterator", "dict_reverseitemiterator", "odict_iterator", "itertools.zip_longest", "itertools.pairwise"].contains n && vs[0]? == some (rawInt _))=true then _ else _) Q E s
       rw [if_neg (by intro h; rw [hn,Bool.false_and] at h; cases h)]
       exact wpAny_pure hQ))
def Itl (K:PySem.W.Frag) (a:Addr):It :=
 ⟨fun i H=>∃ xs x,SqL K H a xs/\xs[i]? = some x,fun i H x H'=>H'=H/\∀ xs,SqL K H a xs->xs[i]? = some x,fun i H=>∃ xs,SqL K H a xs/\xs.length<=i⟩
def Itr (lo:Int) (n:Nat):It:=⟨fun i _=>i < n,fun i H x H'=>H'=H/\x=.int (lo + i),fun i _=>n<=i⟩
theorem turn_list {P:Program}{w:World}{K:PySem.W.Frag}{tg:Expr}(a it:Addr):Turn P w K tg (Itl K a) [it] it (fun i h=>h.IsListIter it a i) where
 mem:=by simp
 obj:=fun i h st b hb=>by
  have e:b=it:=by simpa using hb
  subst e
  obtain ⟨o,e,c,d⟩:=st
  exact ⟨o,e,fun v z=>by rw [d] at z; cases z⟩
 keep:=fun i h h' st k=>st.at fun o e=>k it (by simp) o e
 item:=by
  intro X hP hw hK hc i pins s σ H E I hf st hg
  subst hP hw hK
  obtain ⟨xs,x,hq,hx⟩:=hg
  obtain ⟨its,rv,p,hz⟩:=I.list hq
  obtain ⟨u,hu,ru⟩:=rv.get hx
  obtain ⟨f0,f1,f2,f3,f4,f5⟩:=hf it (by simp)
  refine wpAny_pyNext_list_item st p.isList (x:=u) (by simpa using hu) fun h' st' sb=>?_
  have I1:Inv X pins σ H { s with heap:=h' }:=I.turned (t':=s.toks) (fun b o hb e=>(sb.2 b hb).trans e) f0 f1 f3 f4 f5
  obtain ⟨o,e,c,d⟩:=id st'
  exact ⟨u,rfl,go_of (s:={ s with heap:=h' }) e c d (by decide) ⟨x,H,I1,ru,⟨rfl,fun ys hy=>by rw [I.list_inj hy hq]; exact hx⟩,st',fun b hb=>(hf b hb).1⟩⟩
 done:=by
  intro X hP hw hK hc i pins s σ H E I hf st hg
  subst hP hw hK
  obtain ⟨xs,hq,hx⟩:=hg
  obtain ⟨its,rv,p,hz⟩:=I.list hq
  obtain ⟨f0,f1,f2,f3,f4,f5⟩:=hf it (by simp)
  have hl:=rv.length
  exact wpAny_pyNext_list_end (I.ok.hd hc) st p.isList (by simp; omega) fun h' eb=>⟨rfl,I.turned (t':=s.toks) (fun b o hb e=>eb b o hb e) f0 f1 f3 f4 f5⟩
 self:=fun _ _ _ _ _ st h=>wpAny_pyIter_listiter st h
theorem turn_range {P:Program}{w:World}{K:PySem.W.Frag}{tg:Expr}(it:Addr) (lo:Int) (n:Nat):Turn P w K tg (Itr lo n) [it] it (fun i h=>IsRangeIter h it (lo + (i:Nat) * 1) ((n:Int) - (i:Nat)) 1) where
 mem:=by simp
 obj:=fun i h st b hb=>by
  have e:b=it:=by simpa using hb
  subst e
  exact ⟨_,st,fun v z=>by
   have z':Data.fields _=Data.cell v:=z
   cases z'⟩
 keep:=fun i h h' st k=>k it (by simp) _ st
 item:=by
  intro X hP hw hK hc i pins s σ H E I hf st hg
  subst hP hw hK
  obtain ⟨f0,f1,f2,f3,f4,f5⟩:=hf it (by simp)
  have W:=Walks.range (prog:=X.prog) (w:=X.w) (I.ok.hd hc) it lo 1 n
  refine W.item i s _ _ hg st fun v h' tk hv st' kk=>?_
  obtain ⟨t,rfl⟩:=hv
  have I1:Inv X pins σ H { s with heap:=h',toks:=tk }:=I.turned (fun b o hb e=>kk b o (by simpa using hb) e) f0 f1 f3 f4 f5
  refine ⟨_,rfl,go_of (s:={ s with heap:=h',toks:=tk }) (n := "range_iterator") st' rfl rfl (by decide) ⟨.int (lo + i),H,I1,⟨t,?_⟩,⟨rfl,rfl⟩,st',fun b hb=>(hf b hb).1⟩⟩
  rw [Int.mul_one]
 done:=by
  intro X hP hw hK hc i pins s σ H E I hf st hg
  subst hP hw hK
  obtain ⟨f0,f1,f2,f3,f4,f5⟩:=hf it (by simp)
  exact wpAny_pyNext_range_end (I.ok.hd hc) st (by have:n<=i:=hg; omega) fun h' eb=>⟨rfl,I.turned (t':=s.toks) (fun b o hb e=>eb b o hb e) f0 f1 f3 f4 f5⟩
 self:=fun _ _ _ _ _ st h=>wpAny_pyIter_rangeiter st h
end L2
namespace L2
open PySem PySem.Spec PyProof.Rows
section
variable {X:Cx}{tg:Expr}
def iList (K:PySem.W.Frag) (tl:TE):TI:=fun σ H R=>tl σ H fun x H1=>∃ a,x=.ref a/\(∃ xs,SqL K H1 a xs)/\R (Itl K a) H1
theorem pi_list {l:Expr}{tl:TE}(hl:PE X l tl):PI X tg l (iList X.K tl):=by
 intro pins s σ H R I h
 refine thn (hl pins s σ H _ I h) fun v s1 ⟨x,H1,I1,r1,q1⟩=>?_
 obtain ⟨a,e,⟨xs,hq⟩,q⟩:=q1
 subst e
 cases r1
 obtain ⟨its,rv,p,hz⟩:=I1.list hq
 refine wpAny_pyIter_list p.isList ?_
 refine ⟨s1.heap.objs.size,[s1.heap.objs.size],_,_,H1,rfl,I1.kept (t':=s1.toks) fun b o e=>Heap.get?_push_of_some _ e,turn_list a _,⟨_,Heap.get?_push_size _ rfl,rfl,rfl⟩,fun b hb=>?_,q⟩
 have e:b=s1.heap.objs.size:=by simpa using hb
 subst e
 exact I1.fpOk (Nat.le_refl _) (I1.hok.fresh (Nat.le_refl _))
theorem range_it {pins:List (Addr×Obj)}{σ:St}{H:Hp}{s:Shared}{R:It->Hp->Prop}{E:Value->Shared->Prop}{lo hi:Int}{t u v:Tok}{tk:Nat}(I:Inv X pins σ H s) (h1 : -(2 ^ 62)<=lo) (h2:lo < 2 ^ 62) (h3 : -(2 ^ 62)<=hi) (h4:hi < 2 ^ 62)
  (q:R (Itr lo (hi - lo).toNat) H):wpAny (model X.prog X.w) X.A (pyIter (.ref s.heap.objs.size)) (PIE X pins σ tg R) E { s with heap:=s.heap.push { cls:=.type "range",data:=.fields #[.int lo t,.int hi u,.int 1 v] },toks:=tk }:=by
 refine wpAny_pyIter_range (IsRange.new ..) (small_one h1 h2 h3 h4) ?_
 have I1:Inv X pins σ H { s with heap:=s.heap.push { cls:=.type "range",data:=.fields #[.int lo t,.int hi u,.int 1 v] },toks:=tk }:=I.kept fun b o e=>Heap.get?_push_of_some _ e
 refine ⟨(s.heap.push { cls:=.type "range",data:=.fields #[.int lo t,.int hi u,.int 1 v] }).objs.size,[(s.heap.push { cls:=.type "range",data:=.fields #[.int lo t,.int hi u,.int 1 v] }).objs.size],_,_,H,rfl,
  I1.kept (t':=tk) fun b o e=>Heap.get?_push_of_some _ e,turn_range _ lo (hi - lo).toNat,?_,fun b hb=>?_,q⟩
 ·have e1:lo + ((0:Nat):Int) * 1=lo:=by simp
  have e2:(((hi - lo).toNat:Nat):Int) - ((0:Nat):Int)=Builtin.Range.rangeSize lo hi 1:=by rw [rangeSize_one]; split <;> omega
  show IsRangeIter _ _ (lo + ((0:Nat):Int) * 1) ((((hi - lo).toNat:Nat):Int) - ((0:Nat):Int)) 1
  rw [e1,e2]
  exact Heap.get?_push_size _ rfl
 ·have e:b=(s.heap.push { cls:=.type "range",data:=.fields #[.int lo t,.int hi u,.int 1 v] }).objs.size:=by simpa using hb
  subst e
  exact I1.fpOk (Nat.le_refl _) (I1.hok.fresh (Nat.le_refl _))
def iRng1 (ta:TA):TI:=fun σ H R=>ta σ H fun vs H1=>∃ j:Int,vs=[.int j] /\ -(2 ^ 62)<=j/\j < 2 ^ 62/\R (Itr 0 j.toNat) H1
def iRng2 (ta:TA):TI:=fun σ H R=>ta σ H fun vs H1=>∃ i j:Int,vs=[.int i,.int j]/\(-(2 ^ 62)<=i/\i < 2 ^ 62 /\ -(2 ^ 62)<=j/\j < 2 ^ 62)/\R (Itr i (j - i).toNat) H1
theorem pi_range1 {a:Expr}{ta:TA}{p pos:Pos}(hg:Gl X "range") (hm:X.mg "range" = none) (ha:PA X [a] ta) (hs:starEach [a] X.env=[(false,eval a X.env)]:=by rfl):PI X tg (.Call (.Name "range" p) [a] [] pos) (iRng1 ta):=by
 intro pins s σ H R I h
 refine Call_ (ld_blt I hg hm boot_range (PyProof.Rows.callWith_type1 (thn (ha pos pins s σ H _ I h) fun us s1 ⟨vs,H1,I1,r1,q1⟩=>?_) hs rfl))
 obtain ⟨j,e,q1,q2,q⟩:=q1
 subst e
 cases r1 with
 | cons r rr =>
  cases rr
  obtain ⟨t,rfl⟩:=r
  exact call_range_1 (range_it I1 (by omega) (by omega) q1 q2 (by simpa using q))
theorem pi_range2 {a b:Expr}{ta:TA}{p pos:Pos}(hg:Gl X "range") (hm:X.mg "range" = none) (ha:PA X [a,b] ta) (hs:starEach [a,b] X.env=[(false,eval a X.env),(false,eval b X.env)]:=by rfl) (hs2:starEach [b] X.env=[(false,eval b X.env)]:=by rfl) :
  PI X tg (.Call (.Name "range" p) [a,b] [] pos) (iRng2 ta):=by
 intro pins s σ H R I h
 refine Call_ (ld_blt I hg hm boot_range (PyProof.Rows.callWith_type1 (thn (ha pos pins s σ H _ I h) fun us s1 ⟨vs,H1,I1,r1,q1⟩=>?_) (by rw [hs,hs2]) (by rw [hs2]; rfl)))
 obtain ⟨i,j,e,⟨q1,q2,q3,q4⟩,q⟩:=q1
 subst e
 cases r1 with
 | cons r rr =>
  cases rr with
  | cons r' rr =>
   cases rr
   obtain ⟨t,rfl⟩:=r
   obtain ⟨t',rfl⟩:=r'
   exact call_range_2 (range_it I1 q1 q2 q3 q4 q)
def tFor (wi:TI) (g:TG) (tb:TS):TS:=fun D σ H=>wi σ H fun J H1=>∃ W:Nat->Nat->St->Hp->Prop,(∃ m,W 0 m σ H1)/\∀ i m σ H,W i m σ H ->
 (J.stop i H/\D.nx σ H)∨(J.go i H/\∃ N:St->Hp->Prop,(∀ σ' H',N σ' H'->∃ m',m' < m/\W (i + 1) m' σ' H')/\∀ x H',J.yld i H x H'->g x σ H' fun σ2 H2=>tb { D with nx:=N,ct:=N,bk:=D.nx } σ2 H2)
def pinsAt (fp:List Addr) (h:Heap):List (Addr×Obj):=fp.filterMap fun b=>(h.get? b).map fun o=>(b,o)
theorem mem_pinsAt {fp:List Addr}{h:Heap}{b:Addr}{o:Obj}(hb:b∈fp) (e:h.get? b=some o):(b,o)∈pinsAt fp h:=List.mem_filterMap.mpr ⟨b,hb,by rw [e]; rfl⟩
theorem of_pinsAt {fp:List Addr}{h:Heap}{p:Addr×Obj}(hp:p∈pinsAt fp h):p.1∈fp/\h.get? p.1=some p.2:=by
 obtain ⟨b,hb,e⟩:=List.mem_filterMap.mp hp
 cases q:h.get? b with
 | none=>rw [q] at e; cases e
 | some o =>
  rw [q] at e
  have e':(b,o)=p:=Option.some.inj e
  subst e'
  exact ⟨hb,q⟩
theorem Inv.pinned {pins:List (Addr×Obj)}{σ:St}{H:Hp}{s:Shared}{fp:List Addr}(I:Inv X pins σ H s) (hf:∀ b∈fp,FpOk X pins H b) (ho:∀ b∈fp,∃ o,s.heap.get? b=some o/\∀ v,o.data≠.cell v):Inv X (pins ++ pinsAt fp s.heap) σ H s :=
 I.pins_of fun p hp=>(List.mem_append.mp hp).elim (fun z=>I.pin p (List.mem_append_right _ z)) fun z=>by
  obtain ⟨hb,e⟩:=of_pinsAt z
  obtain ⟨f0,f1,f2,_⟩:=hf p.1 hb
  obtain ⟨o,e',d⟩:=ho p.1 hb
  rw [e] at e'; cases e'
  exact ⟨e,f0,f1,f2,d⟩
theorem Inv.unpinned {pins pl:List (Addr×Obj)}{σ:St}{H:Hp}{s:Shared}(I:Inv X (pins ++ pl) σ H s):Inv X pins σ H s:=I.pins_of fun p hp=>I.pin p (List.mem_append_right _ (List.mem_append_left _ hp))
theorem ps_for {iter:Expr}{body:List Stmt}{wi:TI}{g:TG}{tb:TS}{pos:Pos}(hp:PassesOwn (model X.prog X.w) X.A X.env X.xe) (hc:X.calm=true) (hi:PI X tg iter wi) (hg:PG X tg g) (hb:PSs X body tb)
  (hs:∀ x,foldedSetIterable iter X.env x=pure x:=by intro _; rfl):PS X (.For tg iter body [] pos) (tFor wi g tb):=by
 intro pins s σ H D I h
 refine wpAny_For (thn (hi pins s σ H _ I h) fun v s1 h1=>thn h1 fun itv s2 h2=>?_) hs
 obtain ⟨it,fp,tn,J,H2,e,I2,T,st2,f2,W,⟨m0,w0⟩,turn⟩:=h2
 subst e
 have stat:∀{H':Hp},(∀ b∈fp,H' b=none)->∀ b∈fp,FpOk X pins H' b:=fun hn b hb=>⟨hn b hb,(f2 b hb).2⟩
 refine codeAny_forLoop_any (fun n s'=>∃ i σ' H',Inv X pins σ' H' s'/\tn i s'.heap/\(∀ b∈fp,H' b=none)/\W i n σ' H') ?_ m0 ⟨0,σ,H2,I2,st2,fun b hb=>(f2 b hb).1,w0⟩
 rintro n s3 ⟨i,σ3,H3,I3,st3,fr3,w3⟩
 rcases turn i n σ3 H3 w3 with ⟨stop,qn⟩ | ⟨go,N,hN,step⟩
 ·refine wpAny_passesOwn hp (thn (T.done X rfl rfl rfl hc i pins s3 σ3 H3 X.xe I3 (stat fr3) st3 stop) fun r s4 ⟨hr,I4⟩=>?_)
  subst hr
  exact wpAny_execs_nil ⟨σ3,H3,I4,qn⟩
 ·refine wpAny_passesOwn hp (thn (T.item X rfl rfl rfl hc i pins s3 σ3 H3 X.xe I3 (stat fr3) st3 go) fun r s4 ⟨u,hr,h4⟩=>?_)
  subst hr
  refine wpAny_passesOwn hp (thn h4 fun _ s5 ⟨x,H5,I5,r5,y5,st5,fr5⟩=>?_)
  have I5':=I5.pinned (stat fr5) (T.obj _ _ st5)
  refine wpAny_passesOwn hp (thn (hg _ s5 σ3 H5 x u _ I5' r5 (step x H5 y5)) fun _ s6 ⟨σ6,H6,I6,q6⟩=>?_)
  refine wpAny_passesOwn hp (thn (hb _ s6 σ6 H6 _ I6 q6) fun f s7 q7=>?_)
  have again:∀{σ7:St} {H7:Hp},Inv X (pins ++ pinsAt fp s5.heap) σ7 H7 s7->N σ7 H7->∃ m,m < n/\∃ i σ' H',Inv X pins σ' H' s7/\tn i s7.heap/\(∀ b∈fp,H' b=none)/\W i m σ' H':=fun {σ7 H7} I7 n7=>by
   obtain ⟨m',hm,w7⟩:=hN σ7 H7 n7
   refine ⟨m',hm,i + 1,σ7,H7,I7.unpinned,T.keep _ _ _ st5 fun b hb o e=>(I7.pin (b,o) (List.mem_append_right _ (List.mem_append_right _ (mem_pinsAt hb e)))).1,fun b hb=>?_,w7⟩
   obtain ⟨o,e,d⟩:=T.obj _ _ st5 b hb
   exact (I7.pin (b,o) (List.mem_append_right _ (List.mem_append_right _ (mem_pinsAt hb e)))).2.1
  cases f with
  | next=>obtain ⟨σ7,H7,I7,n7⟩:=q7; exact again I7 n7
  | cont=>obtain ⟨σ7,H7,I7,n7⟩:=q7; exact again I7 n7
  | brk=>obtain ⟨σ7,H7,I7,q7⟩:=q7; exact ⟨σ7,H7,I7.unpinned,q7⟩
  | ret v=>obtain ⟨x7,σ7,H7,I7,r7,q7⟩:=q7; exact ⟨x7,σ7,H7,I7.unpinned,r7,q7⟩
end
theorem for_list {K:PySem.W.Frag}{a:Addr}{xs:List V}{g:TG}{tb:TS}{D:Ends}{σ:St}{H:Hp}(Pv:Nat->St->Hp->Prop) (h0:Pv 0 σ H) (hl:∀ i σ H,i<=xs.length->Pv i σ H->SqL K H a xs)
  (hs:∀ i x σ H,xs[i]? = some x->Pv i σ H->g x σ H fun σ2 H2=>tb { D with nx:=Pv (i + 1),ct:=Pv (i + 1),bk:=D.nx } σ2 H2) (hd:∀ σ H,Pv xs.length σ H->D.nx σ H) :
  ∃ W:Nat->Nat->St->Hp->Prop,(∃ m,W 0 m σ H)/\∀ i m σ H,W i m σ H ->
   ((Itl K a).stop i H/\D.nx σ H)∨((Itl K a).go i H/\∃ N:St->Hp->Prop,(∀ σ' H',N σ' H'->∃ m',m' < m/\W (i + 1) m' σ' H')/\∀ x H',(Itl K a).yld i H x H'->g x σ H' fun σ2 H2=>tb { D with nx:=N,ct:=N,bk:=D.nx } σ2 H2):=by
 refine ⟨fun i m σ H=>m=xs.length - i/\i<=xs.length/\Pv i σ H,⟨xs.length,by simp,Nat.zero_le _,h0⟩,?_⟩
 rintro i m σ H ⟨rfl,hi,p⟩
 have q:=hl i σ H hi p
 by_cases hlt:i < xs.length
 ·refine .inr ⟨⟨xs,xs[i],q,by simp [hlt]⟩,Pv (i + 1),fun σ' H' p'=>⟨xs.length - (i + 1),by omega,rfl,hlt,p'⟩,fun x H' y=>?_⟩
  obtain ⟨e,y⟩:=y
  subst e
  exact hs i x σ _ (y xs q) p
 ·have e:i=xs.length:=by omega
  subst e
  exact .inl ⟨⟨xs,q,Nat.le_refl _⟩,hd σ H p⟩
theorem for_range {lo:Int}{n:Nat}{g:TG}{tb:TS}{D:Ends}{σ:St}{H:Hp}(Pv:Nat->St->Hp->Prop) (h0:Pv 0 σ H)
  (hs:∀ i σ H,i < n->Pv i σ H->g (.int (lo + i)) σ H fun σ2 H2=>tb { D with nx:=Pv (i + 1),ct:=Pv (i + 1),bk:=D.nx } σ2 H2) (hd:∀ σ H,Pv n σ H->D.nx σ H) :
  ∃ W:Nat->Nat->St->Hp->Prop,(∃ m,W 0 m σ H)/\∀ i m σ H,W i m σ H ->
   ((Itr lo n).stop i H/\D.nx σ H)∨((Itr lo n).go i H/\∃ N:St->Hp->Prop,(∀ σ' H',N σ' H'->∃ m',m' < m/\W (i + 1) m' σ' H')/\∀ x H',(Itr lo n).yld i H x H'->g x σ H' fun σ2 H2=>tb { D with nx:=N,ct:=N,bk:=D.nx } σ2 H2):=by
 refine ⟨fun i m σ H=>m=n - i/\i<=n/\Pv i σ H,⟨n,by simp,Nat.zero_le _,h0⟩,?_⟩
 rintro i m σ H ⟨rfl,hi,p⟩
 by_cases hlt:i < n
 ·refine .inr ⟨hlt,Pv (i + 1),fun σ' H' p'=>⟨n - (i + 1),by omega,rfl,hlt,p'⟩,fun x H' y=>?_⟩
  obtain ⟨e,y⟩:=y
  subst e y
  exact hs i σ _ hlt p
 ·have e:i=n:=by omega
  subst e
  exact .inl ⟨Nat.le_refl _,hd σ H p⟩
end L2
namespace L2
open PySem PySem.Spec PyProof.Rows
abbrev R2:=V->V->Hp->VK->Prop
def OpR (X:Cx) (f:Value->Value->Sem Value) (r:R2):Prop :=
 ∀(pins:List (Addr×Obj)) (s:Shared) (σ:St) (H:Hp) (x y:V) (v u:Value) (Q:VK),Inv X pins σ H s->RelV x v->RelV y u->r x y H Q ->
  wpAny (model X.prog X.w) X.A (f v u) (EP X pins σ Q) X.xe s
def UnR (X:Cx) (f:Value->Sem Value) (r:V->Hp->VK->Prop):Prop :=
 ∀(pins:List (Addr×Obj)) (s:Shared) (σ:St) (H:Hp) (x:V) (v:Value) (Q:VK),Inv X pins σ H s->RelV x v->r x H Q ->
  wpAny (model X.prog X.w) X.A (f v) (EP X pins σ Q) X.xe s
def CallR (X:Cx) (f:Value) (r:List V->Hp->VK->Prop):Prop :=
 ∀(pins:List (Addr×Obj)) (s:Shared) (σ:St) (H:Hp) (xs:List V) (us:List Value) (Q:VK),Inv X pins σ H s->Vals xs us->r xs H Q ->
  wpAny (model X.prog X.w) X.A (call f us) (EP X pins σ Q) X.xe s
def TruR (X:Cx) (r:V->Hp->(Bool->Hp->Prop)->Prop):Prop :=
 ∀(pins:List (Addr×Obj)) (s:Shared) (σ:St) (H:Hp) (x:V) (v:Value) (Q:Bool->Hp->Prop),Inv X pins σ H s->RelV x v->r x H Q ->
  wpAny (model X.prog X.w) X.A (truthy v) (TP X pins σ Q) X.xe s
def tOp (r:R2) (ta tb:TE):TE:=fun σ H Q=>ta σ H fun x H1=>tb σ H1 fun y H2=>r x y H2 Q
def tUn (r:V->Hp->VK->Prop) (ta:TE):TE:=fun σ H Q=>ta σ H fun x H1=>r x H1 Q
def rI (C:Int->Int->Prop) (g:Int->Int->V):R2:=fun x y H Q=>∃ i j,x=.int i/\y=.int j/\C i j/\Q (g i j) H
def rI0 (g:Int->Int->V):R2:=fun x y H Q=>∃ i j,x=.int i/\y=.int j/\Q (g i j) H
def rU (g:Int->V):V->Hp->VK->Prop:=fun x H Q=>∃ i,x=.int i/\Q (g i) H
section
variable {X:Cx}{a b c:Expr}{ta tb tc:TE}{pos:Pos}
theorem binT (ha:PE X a ta) (hb:PE X b tb) {pins:List (Addr×Obj)}{s:Shared}{σ:St}{H:Hp}{R:V->V->Hp->Prop}(I:Inv X pins σ H s)
  (h:ta σ H fun x H1=>tb σ H1 fun y H2=>R x y H2) {Q:Value->Shared->Prop} {f:Value->Value->Sem Value}
  (hf:∀ v u s2 x y H2,Inv X pins σ H2 s2->RelV x v->RelV y u->R x y H2->wpAny (model X.prog X.w) X.A (f v u) Q X.xe s2) :
  wpAny (model X.prog X.w) X.A (eval a X.env) (fun v s₁=>wpAny (model X.prog X.w) X.A (eval b X.env) (fun u s₂=>wpAny (model X.prog X.w) X.A (f v u) Q X.xe s₂) X.xe s₁) X.xe s:=by
 refine thn (ha pins s σ H _ I h) fun v s1 ⟨x,H1,I1,r1,q1⟩=>?_
 refine thn (hb pins s1 σ H1 _ I1 q1) fun u s2 ⟨y,H2,I2,r2,q2⟩=>?_
 exact hf v u s2 x y H2 I2 r1 r2 q2
theorem pe_op {op:Operator}{r:R2}(ho:OpR X (binaryOp op) r) (ha:PE X a ta) (hb:PE X b tb):PE X (.BinOp a op b pos) (tOp r ta tb):=by
 intro pins s σ H Q I h
 exact wpAny_BinOp (binT ha hb I h fun v u s2 x y H2 I2 rx ry q=>ho pins s2 σ H2 x y v u Q I2 rx ry q)
theorem pe_un {op:UnaryOp}{r:V->Hp->VK->Prop}(ho:UnR X (unaryOp op) r) (ha:PE X a ta):PE X (.UnaryOp op a pos) (tUn r ta):=by
 intro pins s σ H Q I h
 exact UnaryOp_ (thn (ha pins s σ H _ I h) fun v s1 ⟨x,H1,I1,r1,q1⟩=>ho pins s1 σ H1 x v Q I1 r1 q1)
theorem opI {f:Value->Value->Sem Value}{C:Int->Int->Prop}{g:Int->Int->Int}
  (rule:∀(i j:Int) (t u:Tok) (s:Shared) (Q:Value->Shared->Prop) (E:Value->Shared->Prop),C i j->Q (.int (g i j) s.toks) { s with toks:=s.toks + 1 }->wpAny (model X.prog X.w) X.A (f (.int i t) (.int j u)) Q E s) :
  OpR X f (rI C fun i j=>.int (g i j)):=by
 intro pins s σ H x y v u Q I rx ry h
 obtain ⟨i,j,rfl,rfl,hc,q⟩:=h
 obtain ⟨t,rfl⟩:=rx
 obtain ⟨t',rfl⟩:=ry
 exact rule i j t t' s _ _ hc ⟨.int (g i j),H,I.tok _,⟨_,rfl⟩,q⟩
theorem opI0 {f:Value->Value->Sem Value}{g:Int->Int->Int}
  (rule:∀(i j:Int) (t u:Tok) (s:Shared) (Q:Value->Shared->Prop) (E:Value->Shared->Prop),Q (.int (g i j) s.toks) { s with toks:=s.toks + 1 }->wpAny (model X.prog X.w) X.A (f (.int i t) (.int j u)) Q E s) :
  OpR X f (rI0 fun i j=>.int (g i j)):=by
 intro pins s σ H x y v u Q I rx ry h
 obtain ⟨i,j,rfl,rfl,q⟩:=h
 obtain ⟨t,rfl⟩:=rx
 obtain ⟨t',rfl⟩:=ry
 exact rule i j t t' s _ _ ⟨.int (g i j),H,I.tok _,⟨_,rfl⟩,q⟩
theorem opB0 {f:Value->Value->Sem Value}{g:Int->Int->Bool}
  (rule:∀(i j:Int) (t u:Tok) (s:Shared) (Q:Value->Shared->Prop) (E:Value->Shared->Prop),Q (.bool (g i j)) s->wpAny (model X.prog X.w) X.A (f (.int i t) (.int j u)) Q E s) :
  OpR X f (rI0 fun i j=>.bl (g i j)):=by
 intro pins s σ H x y v u Q I rx ry h
 obtain ⟨i,j,rfl,rfl,q⟩:=h
 obtain ⟨t,rfl⟩:=rx
 obtain ⟨t',rfl⟩:=ry
 exact rule i j t t' s _ _ ⟨.bl (g i j),H,I,rfl,q⟩
def CDiv (i j:Int):Prop:=0 < j/\j < 1073741824
def CPow (i j:Int):Prop:=0<=j/\j<=1000000/\i.natAbs < 2 ^ 64
def CMul (i j:Int):Prop:=(-(2 ^ 64) < i/\i < 2 ^ 64)∨(-(2 ^ 64) < j/\j < 2 ^ 64)
theorem CMul.ok {i j:Int}(h:CMul i j):IntMulOk i j:=by
 rcases h with ⟨h1,h2⟩ | ⟨h1,h2⟩
 ·exact .of_left (intBits_le_64 h1 h2)
 ·exact .of_right (intBits_le_64 h1 h2)
theorem op_add:OpR X (binaryOp .Add) (rI0 fun i j=>.int (i + j)):=opI0 fun _ _ _ _ _ _ _ q=>add_int q
theorem op_sub:OpR X (binaryOp .Sub) (rI0 fun i j=>.int (i - j)):=opI0 fun _ _ _ _ _ _ _ q=>sub_int q
theorem op_mul:OpR X (binaryOp .Mult) (rI CMul fun i j=>.int (i * j)):=opI fun _ _ _ _ _ _ _ hc q=>mul_int q hc.ok
theorem op_fdiv:OpR X (binaryOp .FloorDiv) (rI CDiv fun i j=>.int (i / j)):=opI fun i j _ _ _ _ _ hc q=>by
 have h1:(0:Int) < j:=hc.1
 have h2:j < 1073741824:=hc.2
 exact floordiv_int (by omega) (by rw [Int.fdiv_eq_ediv_of_nonneg i (by omega)]; exact q) (.inl (PyProof.noPylong_small (by omega)))
theorem op_mod:OpR X (binaryOp .Mod) (rI (fun _ j=>0 < j) fun i j=>.int (i % j)):=opI fun i j _ _ _ _ _ hc q=>by
 have h1:(0:Int) < j:=hc
 exact mod_int' (by omega) (by rw [Int.fmod_eq_emod_of_nonneg i (by omega)]; exact q)
theorem op_pow:OpR X (binaryOp .Pow) (rI CPow fun i j=>.int (i ^ j.toNat)):=opI fun _ _ _ _ _ _ _ hc q=>pow_int_small hc.1 hc.2.1 hc.2.2 q
theorem unI {f:Value->Sem Value}{g:Int->Int}
  (rule:∀(i:Int) (t:Tok) (s:Shared) (Q:Value->Shared->Prop) (E:Value->Shared->Prop),Q (.int (g i) s.toks) { s with toks:=s.toks + 1 }->wpAny (model X.prog X.w) X.A (f (.int i t)) Q E s) :
  UnR X f (rU fun i=>.int (g i)):=by
 intro pins s σ H x v Q I rx h
 obtain ⟨i,rfl,q⟩:=h
 obtain ⟨t,rfl⟩:=rx
 exact rule i t s _ _ ⟨.int (g i),H,I.tok _,⟨_,rfl⟩,q⟩
theorem un_neg:UnR X (unaryOp .USub) (rU fun i=>.int (-i)):=unI fun _ _ _ _ _ q=>neg_int q
end
def scal:V->V->Bool
 | .non,.non=>true | .non,.int _=>true | .int _,.non=>true | .non,.bl _=>true | .bl _,.non=>true | .non,.str _=>true | .str _,.non=>true
 | .int _,.int _=>true | .bl _,.bl _=>true | .str _,.str _=>true | .byt _,.byt _=>true
 | .int _,.str _=>true | .str _,.int _=>true | .bl _,.str _=>true | .str _,.bl _=>true
 | _,_=>false
def rEq:R2:=fun x y H Q=>scal x y=true/\Q (.bl (decide (x=y))) H
def rNe:R2:=fun x y H Q=>scal x y=true/\Q (.bl (!decide (x=y))) H
theorem dec_int {i j:Int}:decide (V.int i=V.int j)=(i == j):=by
 rw [Bool.eq_iff_iff]
 simp
theorem dec_bl {i j:Bool}:decide (V.bl i=V.bl j)=(i == j):=by
 rw [Bool.eq_iff_iff]
 simp
theorem dec_str {i j:Str}:decide (V.str i=V.str j)=(i == j):=by
 rw [Bool.eq_iff_iff]
 simp
theorem dec_byt {i j:Array UInt8}:decide (V.byt i=V.byt j)=(i.toList == j.toList):=by
 rw [Bool.eq_iff_iff]
 cases i
 cases j
 simp
section
variable {X:Cx}{a b c:Expr}{ta tb tc:TE}{pos:Pos}
theorem fin_bl {pins:List (Addr×Obj)}{σ:St}{H:Hp}{s:Shared}{Q:VK}{k k':Bool}(I:Inv X pins σ H s) (q:Q (.bl k) H) (e:k=k'):EP X pins σ Q (.bool k') s:=by
 subst e
 exact ⟨.bl k,H,I,rfl,q⟩
theorem op_eq:OpR X (compareOp .Eq) rEq:=by
 intro pins s σ H x y v u Q I rx ry h
 obtain ⟨hs,q⟩:=h
 cases x with
 | non =>
  cases rx
  cases y with
  | non=>cases ry; exact PySem.EqNone.eq_none_none (fin_bl I q (by simp))
  | bl j=>cases ry; exact PySem.EqNone.eq_none_bool (fin_bl I q (by simp))
  | int j=>obtain ⟨t',rfl⟩:=ry; exact PySem.EqNone.eq_none_int (fin_bl I q (by simp))
  | str j=>obtain ⟨t',rfl⟩:=ry; exact PySem.EqNone.eq_none_str (fin_bl I q (by simp))
  | _=>exact absurd (show false=true from hs) Bool.false_ne_true
 | bl i =>
  cases rx
  cases y with
  | non=>cases ry; exact PySem.EqNone.eq_bool_none (fin_bl I q (by simp))
  | bl j=>cases ry; exact eq_bool (fin_bl I q dec_bl)
  | str j=>obtain ⟨t',rfl⟩:=ry; exact PySem.EqMixed.eq_bool_str (fin_bl I q (by simp))
  | _=>exact absurd (show false=true from hs) Bool.false_ne_true
 | int i =>
  obtain ⟨t,rfl⟩:=rx
  cases y with
  | non=>cases ry; exact PySem.EqNone.eq_int_none (fin_bl I q (by simp))
  | int j=>obtain ⟨t',rfl⟩:=ry; exact eq_int (fin_bl I q dec_int)
  | str j=>obtain ⟨t',rfl⟩:=ry; exact PySem.EqMixed.eq_int_str (fin_bl I q (by simp))
  | _=>exact absurd (show false=true from hs) Bool.false_ne_true
 | str i =>
  obtain ⟨t,rfl⟩:=rx
  cases y with
  | non=>cases ry; exact PySem.EqNone.eq_str_none (fin_bl I q (by simp))
  | bl j=>cases ry; exact PySem.EqMixed.eq_str_bool (fin_bl I q (by simp))
  | int j=>obtain ⟨t',rfl⟩:=ry; exact PySem.EqMixed.eq_str_int (fin_bl I q (by simp))
  | str j=>obtain ⟨t',rfl⟩:=ry; exact eq_str (fin_bl I q dec_str)
  | _=>exact absurd (show false=true from hs) Bool.false_ne_true
 | byt i =>
  obtain ⟨t,rfl⟩:=rx
  cases y with
  | byt j=>obtain ⟨t',rfl⟩:=ry; exact PySem.W.eq_bytes (fin_bl I q dec_byt)
  | _=>exact absurd (show false=true from hs) Bool.false_ne_true
 | _=>cases y <;> exact absurd (show false=true from hs) Bool.false_ne_true
theorem op_ne:OpR X (compareOp .NotEq) rNe:=by
 intro pins s σ H x y v u Q I rx ry h
 obtain ⟨hs,q⟩:=h
 cases x with
 | non =>
  cases rx
  cases y with
  | non=>cases ry; exact PySem.EqNone.ne_none_none (fin_bl I q (by simp))
  | bl j=>cases ry; exact PySem.EqNone.ne_none_bool (fin_bl I q (by simp))
  | int j=>obtain ⟨t',rfl⟩:=ry; exact PySem.EqNone.ne_none_int (fin_bl I q (by simp))
  | str j=>obtain ⟨t',rfl⟩:=ry; exact PySem.EqNone.ne_none_str (fin_bl I q (by simp))
  | _=>exact absurd (show false=true from hs) Bool.false_ne_true
 | bl i =>
  cases rx
  cases y with
  | non=>cases ry; exact PySem.EqNone.ne_bool_none (fin_bl I q (by simp))
  | bl j=>cases ry; exact ne_bool (fin_bl I q (congrArg not dec_bl))
  | str j=>obtain ⟨t',rfl⟩:=ry; exact PySem.EqMixed.ne_bool_str (fin_bl I q (by simp))
  | _=>exact absurd (show false=true from hs) Bool.false_ne_true
 | int i =>
  obtain ⟨t,rfl⟩:=rx
  cases y with
  | non=>cases ry; exact PySem.EqNone.ne_int_none (fin_bl I q (by simp))
  | int j=>obtain ⟨t',rfl⟩:=ry; exact ne_int (fin_bl I q (congrArg not dec_int))
  | str j=>obtain ⟨t',rfl⟩:=ry; exact PySem.EqMixed.ne_int_str (fin_bl I q (by simp))
  | _=>exact absurd (show false=true from hs) Bool.false_ne_true
 | str i =>
  obtain ⟨t,rfl⟩:=rx
  cases y with
  | non=>cases ry; exact PySem.EqNone.ne_str_none (fin_bl I q (by simp))
  | bl j=>cases ry; exact PySem.EqMixed.ne_str_bool (fin_bl I q (by simp))
  | int j=>obtain ⟨t',rfl⟩:=ry; exact PySem.EqMixed.ne_str_int (fin_bl I q (by simp))
  | str j=>obtain ⟨t',rfl⟩:=ry; exact ne_str (fin_bl I q (congrArg not dec_str))
  | _=>exact absurd (show false=true from hs) Bool.false_ne_true
 | byt i =>
  obtain ⟨t,rfl⟩:=rx
  cases y with
  | byt j=>obtain ⟨t',rfl⟩:=ry; exact PySem.W.ne_bytes (fin_bl I q (congrArg not dec_byt))
  | _=>exact absurd (show false=true from hs) Bool.false_ne_true
 | _=>cases y <;> exact absurd (show false=true from hs) Bool.false_ne_true
theorem op_lt:OpR X (compareOp .Lt) (rI0 fun i j=>.bl (decide (i < j))):=opB0 fun _ _ _ _ _ _ _ q=>lt_int q
theorem op_le:OpR X (compareOp .LtE) (rI0 fun i j=>.bl (decide (i<=j))):=opB0 fun _ _ _ _ _ _ _ q=>le_int q
theorem op_gt:OpR X (compareOp .Gt) (rI0 fun i j=>.bl (decide (j < i))):=opB0 fun _ _ _ _ _ _ _ q=>gt_int q
theorem op_ge:OpR X (compareOp .GtE) (rI0 fun i j=>.bl (decide (j<=i))):=opB0 fun _ _ _ _ _ _ _ q=>ge_int q
theorem op_in_str:OpR X (compareOp .In) (fun x y H Q=>∃ i j,x=.str i/\y=.str j/\Q (.bl (!(Builtin.Str.occurrences j i 0 j.length 1).isEmpty)) H):=by
 intro pins s σ H x y v u Q I rx ry h
 obtain ⟨i,j,rfl,rfl,q⟩:=h
 obtain ⟨t,rfl⟩:=rx
 obtain ⟨t',rfl⟩:=ry
 exact in_str (fin_bl I q rfl)
theorem op_isN:OpR X (compareOp .Is) (fun x y H Q=>y=.non/\Q (.bl (decide (x=.non))) H):=by
 intro pins s σ H x y v u Q I rx ry h
 obtain ⟨rfl,q⟩:=h
 cases ry
 refine is_none_gen (fin_bl I q ?_)
 cases x <;> first
  | (cases rx; rfl)
  | (obtain ⟨t,rfl⟩:=rx; rfl)
theorem OpR.or {f:Value->Value->Sem Value}{r r':R2}(h:OpR X f r) (h':OpR X f r'):OpR X f (fun x y H Q=>r x y H Q∨r' x y H Q):=by
 intro pins s σ H x y v u Q I rx ry q
 rcases q with q | q
 ·exact h pins s σ H x y v u Q I rx ry q
 ·exact h' pins s σ H x y v u Q I rx ry q
theorem nomark (b:Expr) {op:CmpOp}(h:op≠.In:=by decide) (h2:op≠.NotIn:=by decide):behindInMarks op b=false:=by
 have e1:(op == CmpOp.In)=false:=by cases op <;> first | rfl | exact absurd rfl h
 have e2:(op == CmpOp.NotIn)=false:=by cases op <;> first | rfl | exact absurd rfl h2
 cases b <;> simp [behindInMarks,e1,e2]
theorem pe_cmpR {op:CmpOp}{r:R2}(ho:OpR X (compareOp op) r) (ha:PE X a ta) (hb:PE X b tb) (hm:behindInMarks op b=false):PE X (.Compare a [op] [b] pos) (tOp r ta tb):=by
 intro pins s σ H Q I h
 exact wpAny_Compare1 (binT ha hb I h fun v u s2 x y H2 I2 rx ry q=>ho pins s2 σ H2 x y v u Q I2 rx ry q) hm
def tTest (t:TE):TT:=fun σ H Q=>t σ H fun x H'=>∃ k,x=.bl k/\Q k H'
theorem pt_cmpR {op:CmpOp}{r:R2}(ho:OpR X (compareOp op) r) (ha:PE X a ta) (hb:PE X b tb) (hm:behindInMarks op b=false):PT X (.Compare a [op] [b] pos) (tTest (tOp r ta tb)):=by
 intro pins s σ H Q I h
 refine wpAny_isTrue_Compare1 (thn (ha pins s σ H _ I h) fun v s1 ⟨x,H1,I1,r1,q1⟩=>thn (hb pins s1 σ H1 _ I1 q1) fun u s2 ⟨y,H2,I2,r2,q2⟩ =>
  thn (ho pins s2 σ H2 x y v u _ I2 r1 r2 q2) fun c s3 ⟨z,H3,I3,r3,k,e,q3⟩=>?_) hm
 subst e
 cases r3
 exact wpAny_truthy_bool ⟨H3,I3,q3⟩
def TruV (K:PySem.W.Frag) (x:V) (H:Hp) (k:Bool):Prop :=
 match x with
 | .non=>k=false
 | .bl b=>k=b
 | .int i=>k=(i != 0)
 | .str y=>y.length<=sizeLine/\k=((y.length:Int) != 0)
 | .byt y=>y.size<=sizeLine/\k=((y.size:Int) != 0)
 | .ref p=>(∃ xs,SqL K H p xs/\k = !xs.isEmpty)∨(∃ xs,SqT K H p xs/\k = !xs.isEmpty)∨∃ kvs,H p=some (.dK kvs)/\k = !kvs.isEmpty
 | _=>False
theorem isEmpty_kv {κ:Type}{kvs:List (κ×V)}{vs:List (κ×Value)}(r:KV kvs vs):(!vs.isEmpty) = !kvs.isEmpty:=by
 cases r <;> rfl
theorem isEmpty_of {xs:List V}{its:List Value}(r:Vals xs its):(!its.toArray.isEmpty) = !xs.isEmpty:=by
 cases r <;> simp
theorem line63:(sizeLine:Nat) < 2 ^ 63:=by rw [sizeLine_eq]; decide
theorem tru_ok:TruR X (fun x H Q=>∃ k,TruV X.K x H k/\Q k H):=by
 intro pins s σ H x v Q I rx h
 obtain ⟨k,e,q⟩:=h
 have hl:=line63
 have hs:sizeLine=16777216:=sizeLine_eq
 cases x with
 | non =>
  cases rx
  have e':k=false:=e
  subst e'
  exact truthy_none ⟨H,I,q⟩
 | bl b =>
  cases rx
  have e':k=b:=e
  subst e'
  exact wpAny_truthy_bool ⟨H,I,q⟩
 | int i =>
  obtain ⟨t,rfl⟩:=rx
  have e':k=(i != 0):=e
  subst e'
  exact PySem.P.truthy_int ⟨H,I,q⟩
 | str y =>
  obtain ⟨t,rfl⟩:=rx
  obtain ⟨hy,e'⟩:y.length<=sizeLine/\k=((y.length:Int) != 0):=e
  subst e'
  exact PySem.P.truthy_str (by omega) ⟨H,I.tok _,q⟩
 | byt y =>
  obtain ⟨t,rfl⟩:=rx
  obtain ⟨hy,e'⟩:y.size<=sizeLine/\k=((y.size:Int) != 0):=e
  subst e'
  exact PySem.W.truthy_bytes (by omega) ⟨H,I.tok _,q⟩
 | ref p =>
  cases rx
  have e':(∃ xs,SqL X.K H p xs/\k = !xs.isEmpty)∨(∃ xs,SqT X.K H p xs/\k = !xs.isEmpty)∨∃ kvs,H p=some (.dK kvs)/\k = !kvs.isEmpty:=e
  rcases e' with ⟨xs,hx,e'⟩ | ⟨xs,hx,e'⟩ | ⟨kvs,hx,e'⟩
  ·subst e'
   obtain ⟨its,r,pl,hz⟩:=I.list hx
   have hlen:=r.length
   exact wpAny_truthy_list pl.isList (by simp only [List.size_toArray]; omega) ⟨H,I.tok _,by rw [isEmpty_of r]; exact q⟩
  ·subst e'
   obtain ⟨its,r,pl,hz⟩:=I.tuple hx
   have hlen:=r.length
   exact truthy_tuple pl (by simp only [List.size_toArray]; omega) ⟨H,I.tok _,by rw [isEmpty_of r]; exact q⟩
  ·subst e'
   obtain ⟨hz,hS,vs,r,m⟩:kvs.length<=sizeLine/\(p == sysModules)=false/\∃ vs,KV kvs vs/\s.heap.DictOf (mixKind X.prog X.w) p vs:=I.hok p _ hx
   have hlen:kvs.length=vs.length:=Paired.length r
   exact wpAny_truthy_dict hS m (by omega) ⟨H,I.tok _,by rw [isEmpty_kv r]; exact q⟩
 | _=>exact (show False from e).elim
theorem pt_truth (ha:PE X a ta) (he:∀ whole,isTrue a X.env whole=(do let v <- whole; standAt a.pos; holding [v] (truthy v))) :
  PT X a (fun σ H Q=>ta σ H fun x H'=>∃ k,TruV X.K x H' k/\Q k H'):=by
 intro pins s σ H Q I h
 exact isTrue_plain (thn (ha pins s σ H _ I h) fun v s1 ⟨x,H1,I1,r1,q1⟩=>tru_ok pins s1 σ H1 x v Q I1 r1 q1) (he _)
theorem op_add_str:OpR X (binaryOp .Add) (fun x y H Q=>∃ i j,x=.str i/\y=.str j/\i.length + j.length<=sizeLine/\Q (.str (i ++ j)) H):=by
 intro pins s σ H x y v u Q I rx ry h
 obtain ⟨i,j,rfl,rfl,hz,q⟩:=h
 obtain ⟨t,rfl⟩:=rx
 obtain ⟨t',rfl⟩:=ry
 exact add_str (fun t' tk=>⟨.str (i ++ j),H,I.tok _,⟨_,rfl⟩,q⟩) hz
theorem vals1 {x:V}{us:List Value}(r:Vals [x] us):∃ u,us=[u]/\RelV x u:=by
 cases r with
 | cons r1 r2=>cases r2; exact ⟨_,rfl,r1⟩
theorem call_abs:CallR X (.builtin "abs") (fun xs H Q=>∃ i,xs=[.int i]/\Q (.int (if i < 0 then -i else i)) H):=by
 intro pins s σ H xs us Q I r h
 obtain ⟨i,rfl,q⟩:=h
 obtain ⟨u,rfl,t,rfl⟩:=vals1 r
 exact call_abs_int fun u tk=>⟨.int (if i < 0 then -i else i),H,I.tok _,⟨_,rfl⟩,q⟩
theorem call_int1:CallR X (.type "int") (fun xs H Q=>(∃ i,xs=[.int i]/\Q (.int i) H)∨∃ k,xs=[.bl k]/\Q (.int (if k then 1 else 0)) H):=by
 intro pins s σ H xs us Q I r h
 rcases h with ⟨i,rfl,q⟩ | ⟨k,rfl,q⟩
 ·obtain ⟨u,rfl,t,rfl⟩:=vals1 r
  exact call_int_int ⟨.int i,H,I,⟨_,rfl⟩,q⟩
 ·obtain ⟨u,rfl,r1⟩:=vals1 r
  cases r1
  exact call_int_bool ⟨.int (if k then 1 else 0),H,I.tok _,⟨_,rfl⟩,q⟩
end
end L2
namespace L2
open PySem PySem.Spec PyProof.Rows
structure ObjM (h:Heap) (x dx C:Addr) (mA:Str->Option Value):Prop where
 obj:h.get? x=some (PySem.W.instObj C dx)
 ns:h.Ns1 dx mA
 ne:dx≠x
theorem lookIn_ns {h:Heap}{dx:Addr}{mA:Str->Option Value}(n:h.Ns1 dx mA):∃ od,h.get? dx=some od/\∀ name,PySem.W.lookIn name od=some (mA name):=by
 obtain ⟨o,es,ep,ho,hd,hk,_,hm⟩:=n
 refine ⟨o,ho,fun name=>?_⟩
 have e:=hm name
 unfold nsFind findBy at e
 rw [<- Array.find?_toList] at e
 unfold PySem.W.lookIn
 rw [hd]
 dsimp only
 split
 ·rename_i y q
  rw [q] at e
  exact congrArg some e
 ·rename_i q
  rw [q] at e
  have a:es.toList.any (·.refKey)=false:=by
   rw [List.any_eq_false]
   intro y hy
   obtain ⟨z,t,hkey⟩:=hk y (Array.mem_toList_iff.mp hy)
   simp [DictEntry.refKey,hkey]
  have a':¬ es.toList.any (·.refKey)=true:=by rw [a]; exact Bool.false_ne_true
  rw [if_neg a']
  exact congrArg some e
theorem ObjM.look {h:Heap}{x dx C:Addr}{mA:Str->Option Value}(I:ObjM h x dx C mA):∃ od,PySem.W.InstAt h x (PySem.W.instObj C dx) C (some od)/\∀ name,PySem.W.lookIn name od=some (mA name) :=
 let ⟨od,ho,hl⟩:=lookIn_ns I.ns
 ⟨od,⟨I.obj,rfl,rfl,ho⟩,hl⟩
section
variable {prog:Program}{w:World}{A:Around}{E:Value->Shared->Prop}{s:Shared}{K:PySem.W.Frag}{x dx C f:Addr}{mA:Str->Option Value}{name:Str}{v:Value}
theorem get_map {expr:Bool}{Q:Value->Shared->Prop}(X:K.In s.heap) (I:ObjM s.heap x dx C mA) (hg:PySem.W.plainGet K C name=true) (hh:PySem.W.hasDictIn K C=true)
  (ha:PySem.W.findIn K (.ref C) name=some none) (hv:mA name=some v) (hv':PySem.W.handedIn v=true) (h:Q v { s with toks:=s.toks + 1 }) :
  wpAny (model prog w) A (getAttr (.ref x) name expr) Q E s:=by
 obtain ⟨od,J,hl⟩:=I.look
 exact PySem.W.get_value X J (PySem.W.plainGet_of hg).1 (PySem.W.findObj_own hh ha rfl (by rw [hl,hv])) hv' h
theorem get_meth {pl:Sem Bool}{Q:Value×List Value->Shared->Prop}(X:K.In s.heap) (I:ObjM s.heap x dx C mA) (hg:PySem.W.plainGet K C name=true)
  (hf:PySem.W.findIn K (.ref C) name=some (some (.ref f))) (ht:PySem.W.isFn K (.ref f)=true) (hv:mA name=none) (h:Q (.ref f,[.ref x]) s) :
  wpAny (model prog w) A (getMethod (.ref x) name pl) Q E s:=by
 obtain ⟨od,J,hl⟩:=I.look
 exact PySem.W.method_fn X J (PySem.W.plainGet_of hg).1 (PySem.W.plainGet_of hg).2 hf (beq_iff_eq.mp ht) (by show (PySem.W.lookIn name od).map (·.isSome)=some false; rw [hl,hv]; rfl) h
theorem set_map {ns:List Str}{Q:Unit->Shared->Prop}(X:K.In s.heap) (I:ObjM s.heap x dx C mA)
  (hs:PySem.W.findIn K (.ref C) "__setattr__" = some (some (.builtin "object.__setattr__"))) (hp:PySem.W.plainOver K C=true) (ht:PySem.W.takerIn K C name=some none) (hh:PySem.W.hasDictIn K C=true)
  (hw:PySem.Within mA ns) (hsz:ns.length<=sizeLine)
  (h:∀ h',ObjM h' x dx C (fun y=>if y=name then some v else mA y)->Heap.SameBut dx s.heap h'->Q () { s with heap:=h',toks:=s.toks + 2 }) :
  wpAny (model prog w) A (setAttr (.ref x) name v) Q E s:=by
 obtain ⟨od,J,hl⟩:=I.look
 refine PySem.W.set_plain X J hs (PySem.W.osa_open (s:={ s with toks:=s.toks + 1 }) (r:=none) X J hp ht fun b=>?_)
 obtain ⟨cd,hc,hd'⟩:=PySem.W.any_some hh
 have hx:s.heap.get? x=some ⟨.ref C,some dx,.plain,#[]⟩:=I.obj
 refine wpAny_bind (wpAny_pure (wpAny_bind (wpAny_bind (wpAny_loadPart hx (wpAny_bind (PySem.W.Looks.here (s:={ s with toks:=s.toks + 1 }) (PySem.W.looks_clsIn X hc) ?_))))))
 rw [hd']
 refine wpAny_pure (a:=some dx) (wpAny_bind (wpAny_pure (wpAny_bind ?_)))
 refine wpAny_nsSet1 (s:={ s with toks:=s.toks + 1 }) I.ns fun h' hn2 hs2=>?_
 obtain ⟨oD,esD,epD,hoD,hdD,hcD⟩:=hn2.count (PySem.Within.cons name v hw)
 refine wpAny_bind (wpAny_lookBehind hoD (by rw [hdD]; exact pastItsLine_dict (Nat.le_trans hcD (by rw [List.length_cons]; omega))) ?_)
 exact wpAny_pure (h _ ⟨(hs2.2 _ (Ne.symm I.ne)).trans I.obj,hn2,I.ne⟩ hs2)
theorem make_map {R:Result->Shared->Prop}{vs:List Value}{kw:List (Str×Value)}(X:K.In s.heap) (hm:PySem.W.makesIn K C=true)
  (hi:PySem.W.findIn K (.ref C) "__init__" = some (some (.ref f))) (hf:PySem.W.typeIn K (.ref f)=some (.type "function"))
  (h:codeAny (model prog w) (A.under (.builtin "type.__call__" ⟨.ref C :: vs,kw⟩)) (.call (.ref f) ⟨.ref (s.heap.objs.size + 1) :: vs,kw⟩) (PySem.W.InitBack (s.heap.objs.size + 1) R)
   { s with heap:=(s.heap.push PySem.W.emptyDict).push (PySem.W.instObj C s.heap.objs.size) }) :
  codeAny (model prog w) A (.call (.ref C) ⟨vs,kw⟩) R s:=by
 obtain ⟨hh,g,d,t,os⟩:=s
 exact PySem.W.make_core (PySem.W.makes_of X hm) (PySem.W.looks_findIn X hi) (fun self=>PySem.W.bind_fn X self hf) (.inl rfl) h
end
def putF (f:Str) (v:V):List (Str×V)->List (Str×V)
 | []=>[(f,v)]
 | (g,x) :: r=>if g=f then (g,v) :: r else (g,x) :: putF f v r
theorem lookup_putF (f g:Str) (v:V):∀ fs:List (Str×V),(putF f v fs).lookup g=if g=f then some v else fs.lookup g
 | []=>by
  show List.lookup g [(f,v)]=_
  by_cases h:g=f
  ·have hb:(g == f)=true:=beq_iff_eq.mpr h
   simp only [List.lookup,hb,if_pos h]
  ·have hb:(g == f)=false:=beq_eq_false_iff_ne.mpr h
   simp only [List.lookup,hb,if_neg h]
 | (k,x) :: r=>by
  have ih:=lookup_putF f g v r
  rw [show putF f v ((k,x) :: r)=(if k=f then (k,v) :: r else (k,x) :: putF f v r) from rfl]
  by_cases hk:k=f
  ·rw [if_pos hk]
   by_cases h:g=k
   ·have hb:(g == k)=true:=beq_iff_eq.mpr h
    simp only [List.lookup,hb,if_pos (h.trans hk)]
   ·have hb:(g == k)=false:=beq_eq_false_iff_ne.mpr h
    simp only [List.lookup,hb,if_neg (fun e:g=f=>h (e.trans hk.symm))]
  ·rw [if_neg hk]
   by_cases h:g=k
   ·have hb:(g == k)=true:=beq_iff_eq.mpr h
    simp only [List.lookup,hb,if_neg (fun e:g=f=>hk (h.symm.trans e))]
   ·have hb:(g == k)=false:=beq_eq_false_iff_ne.mpr h
    simp only [List.lookup,hb]
    exact ih
theorem keys_putF (f:Str) (v:V):∀ fs:List (Str×V),f∈(putF f v fs).map (·.1)/\∀ g,g∈fs.map (·.1)->g∈(putF f v fs).map (·.1)
 | []=>⟨by simp [putF],fun g h=>by simp at h⟩
 | (k,x) :: r=>by
  obtain ⟨i1,i2⟩:=keys_putF f v r
  rw [show putF f v ((k,x) :: r)=(if k=f then (k,v) :: r else (k,x) :: putF f v r) from rfl]
  by_cases hk:k=f
  ·rw [if_pos hk]
   subst hk
   exact ⟨by simp,fun g h=>by simpa using h⟩
  ·rw [if_neg hk]
   refine ⟨?_,fun g h=>?_⟩
   ·rw [List.map_cons]
    exact List.mem_cons_of_mem _ i1
   ·rw [List.map_cons] at h ⊢
    rcases List.mem_cons.mp h with e | e
    ·exact List.mem_cons.mpr (.inl e)
    ·exact List.mem_cons_of_mem _ (i2 g e)
theorem length_putF (f:Str) (v:V):∀ fs:List (Str×V),(putF f v fs).length<=fs.length + 1
 | []=>by simp [putF]
 | (k,x) :: r=>by
  have ih:=length_putF f v r
  rw [show putF f v ((k,x) :: r)=(if k=f then (k,v) :: r else (k,x) :: putF f v r) from rfl]
  by_cases hk:k=f
  ·rw [if_pos hk,List.length_cons,List.length_cons]; omega
  ·rw [if_neg hk,List.length_cons,List.length_cons]; omega
theorem RelO.some_of {v:V}{o:Option Value}(r:RelO (some v) o):∃ u,o=some u/\RelV v u:=by
 cases o with
 | none=>exact (show False from r).elim
 | some u=>exact ⟨u,rfl,r⟩
theorem RelO.none_of {o:Option Value}(r:RelO none o):o=none:=by
 cases o with
 | none=>rfl
 | some u=>exact (show False from r).elim
theorem handed_of {v:V}{u:Value}(r:RelV v u):PySem.W.handedIn u=true:=by
 cases v with
 | non=>cases (show u=Value.none from r); rfl
 | bl b=>cases (show u=Value.bool b from r); rfl
 | int i=>obtain ⟨t,e⟩:=(show ∃ t,u=Value.int i t from r); cases e; rfl
 | str x=>obtain ⟨t,e⟩:=(show ∃ t,u=Value.str x t from r); cases e; rfl
 | byt b=>obtain ⟨t,e⟩:=(show ∃ t,u=Value.bytes b t from r); cases e; rfl
 | flt b=>obtain ⟨t,e⟩:=(show ∃ t,u=Value.float b t from r); cases e; rfl
 | ref a=>cases (show u=Value.ref a from r); rfl
 | ty n=>cases (show u=Value.type n from r); rfl
section
variable {P:Program}{w:World}{H H':Hp}{h h':Heap}{a C dx:Addr}{fs fs':List (Str×V)}
theorem ins_get (hok:HOk P w H h) (e:H a=some (.ins C dx fs)):∃ mA,ObjM h a dx C mA/\(∀ f,RelO (fs.lookup f) (mA f))/\PySem.Within mA (fs.map (·.1))/\fs.length<=1000/\H dx=some (.own a):=by
 obtain ⟨d,z,ne,ob,mA,n,r,q⟩:=(show ObjOk P w H h a (.ins C dx fs) from hok a _ e)
 exact ⟨mA,⟨ob,n,ne⟩,r,q,z,d⟩
end
structure Cls (K:PySem.W.Frag) (C:Addr):Prop where
 pg:PySem.W.plainGet K C Str.empty=true
 hd:PySem.W.hasDictIn K C=true
 po:PySem.W.plainOver K C=true
 sa:PySem.W.findIn K (.ref C) "__setattr__" = some (some (.builtin "object.__setattr__"))
theorem Cls.get {K:PySem.W.Frag}{C:Addr}(c:Cls K C) (f:Str):PySem.W.plainGet K C f=true:=c.pg
def NoAttr (K:PySem.W.Frag) (C:Addr) (f:Str):Prop:=PySem.W.findIn K (.ref C) f=some none
theorem NoAttr.taker {K:PySem.W.Frag}{C:Addr}{f:Str}(n:NoAttr K C f):PySem.W.takerIn K C f=some none:=by
 unfold PySem.W.takerIn
 rw [show PySem.W.findIn K (.ref C) f=some none from n]
 rfl
structure Con (K:PySem.W.Frag) (C:Addr) (f:Str) (v:V) (u:Value):Prop where
 at_:PySem.W.findIn K (.ref C) f=some (some u)
 rel:RelV v u
 get:PySem.W.specialIn K u "__get__" = some none
 cp:PySem.W.copiedNames.contains f=false
structure Meth (K:PySem.W.Frag) (C:Addr) (m:Str) (f:Addr):Prop where
 at_:PySem.W.findIn K (.ref C) m=some (some (.ref f))
 fn:PySem.W.isFn K (.ref f)=true
 kp:PySem.W.keepIn K (.ref f)=true
section
variable {X:Cx}{pins:List (Addr×Obj)}{σ:St}{H:Hp}{s:Shared}{a C dx:Addr}{fs:List (Str×V)}{f:Str}{v:V}{A:Around}{E:Value->Shared->Prop}
theorem getattr_ok {b:Bool}{Q:Value->Shared->Prop}(I:Inv X pins σ H s) (e:H a=some (.ins C dx fs)) (c:Cls X.K C) (n:NoAttr X.K C f) (l:fs.lookup f=some v)
  (h:∀ u s',Inv X pins σ H s'->RelV v u->Q u s'):wpAny (model X.prog X.w) A (getAttr (.ref a) f b) Q E s:=by
 obtain ⟨mA,O,r,_,_,_⟩:=ins_get I.hok e
 obtain ⟨u,hu,ru⟩:=RelO.some_of (v:=v) (o:=mA f) (by rw [<- l]; exact r f)
 exact get_map I.kIn O (c.get f) c.hd n hu (handed_of ru) (h u _ (I.tok _) ru)
theorem getmeth_ok {m:Str}{g:Addr}{pl:Sem Bool}{Q:Value×List Value->Shared->Prop}(I:Inv X pins σ H s) (e:H a=some (.ins C dx fs)) (c:Cls X.K C) (k:Meth X.K C m g) (l:fs.lookup m=none)
  (h:Q (.ref g,[.ref a]) s):wpAny (model X.prog X.w) A (getMethod (.ref a) m pl) Q E s:=by
 obtain ⟨mA,O,r,_,_,_⟩:=ins_get I.hok e
 have hn:mA m=none:=RelO.none_of (by rw [<- l]; exact r m)
 exact get_meth I.kIn O (c.get m) k.at_ k.fn hn h
theorem setattr_ok {y:V}{u:Value}{Q:Unit->Shared->Prop}(I:Inv X pins σ H s) (e:H a=some (.ins C dx fs)) (c:Cls X.K C) (n:NoAttr X.K C f) (hl:fs.length < 1000) (ry:RelV y u)
  (h:∀ s',Inv X pins σ (upd H a (.ins C dx (putF f y fs))) s'->Q () s'):wpAny (model X.prog X.w) A (setAttr (.ref a) f u) Q E s:=by
 obtain ⟨mA,O,r,wi,_,ho⟩:=ins_get I.hok e
 have hz:(fs.map (·.1)).length<=sizeLine:=by rw [List.length_map,sizeLine_eq]; omega
 refine set_map I.kIn O c.sa c.po n.taker c.hd wi hz fun h' O' sb=>h _ ?_
 have hd:∃ o,h'.get? dx=some o:=let ⟨o,_,_,e',_⟩:=O'.ns; ⟨o,e'⟩
 refine I.write (x:=a) (e:=dx) (by rw [e]; exact True.intro) (.inr ho) (fun b q hb z=>(sb.2 b hb).trans z) hd ?_
 refine ⟨by rw [upd_ne O.ne]; exact ho,?_,O.ne,O'.obj,_,O'.ns,fun g=>?_,fun g hg=>?_⟩
 ·have:=length_putF f y fs; omega
 ·show RelO ((putF f y fs).lookup g) (if g=f then some u else mA g)
  rw [lookup_putF]
  by_cases q:g=f
  ·rw [if_pos q,if_pos q]; exact ry
  ·rw [if_neg q,if_neg q]; exact r g
 ·by_cases q:g=f
  ·rw [q]; exact (keys_putF f y fs).1
  ·refine (keys_putF f y fs).2 g (wi g fun z=>hg ?_)
   show (if g=f then some u else mA g)=none
   rw [if_neg q]; exact z
theorem Inv.made (I:Inv X pins σ H s):Inv X pins σ (upd (upd H s.heap.objs.size (.own (s.heap.objs.size + 1))) (s.heap.objs.size + 1) (.ins C s.heap.objs.size []))
  { s with heap:=(s.heap.push PySem.W.emptyDict).push (PySem.W.instObj C s.heap.objs.size) }:=by
 have e1:(s.heap.push PySem.W.emptyDict).get? s.heap.objs.size=some PySem.W.emptyDict:=Heap.get?_push_size s.heap rfl
 have e2:((s.heap.push PySem.W.emptyDict).push (PySem.W.instObj C s.heap.objs.size)).get? (s.heap.objs.size + 1)=some (PySem.W.instObj C s.heap.objs.size):=by
  have:=Heap.get?_push_size (s.heap.push PySem.W.emptyDict) (o:=PySem.W.instObj C s.heap.objs.size) rfl
  rwa [Heap.size_push] at this
 have e3:(s.heap.push PySem.W.emptyDict).Ns s.heap.objs.size (fun _=>none):=⟨PySem.W.emptyDict,#[],_,e1,rfl,(fun e he=>absurd he (by simp)),fun _=>rfl⟩
 have I1:=I.laid (a:=s.heap.objs.size) (o:=.own (s.heap.objs.size + 1)) (h':=s.heap.push PySem.W.emptyDict) (t':=s.toks) (fun b u q=>Heap.get?_push_of_some _ q) (Nat.le_refl _) ⟨_,e1⟩
 refine I1.laid (a:=s.heap.objs.size + 1) (o:=.ins C s.heap.objs.size []) (t':=s.toks) (fun b u q=>Heap.get?_push_of_some _ q) (Nat.le_of_eq (Heap.size_push _ _)) ?_
 have ne:s.heap.objs.size≠s.heap.objs.size + 1:=Nat.ne_of_lt (Nat.lt_succ_self _)
 refine ⟨by rw [upd_ne ne,upd_same],Nat.zero_le _,ne,e2,fun _=>none,(Heap.Ns1.of_empty e3).at fun o q=>Heap.get?_push_of_some _ q,fun _=>True.intro,fun y hy=>absurd rfl hy⟩
theorem attr_of {prog:Program}{w:World}{env:Env}{e:Expr}{f:Str}{pos:Pos}{s:Shared}{Q:Value->Shared->Prop}(hb:attributeBase e f env (eval e env)=eval e env)
  (h:wpAny (model prog w) A (eval e env) (fun o s₁=>wpAny (model prog w) A (getAttr o f true) Q E s₁) E s):wpAny (model prog w) A (eval (.Attribute e f pos) env) Q E s :=
 Attribute_any_ h (by rw [arm_eval_Attribute,hb])
end
def tFld (K:PySem.W.Frag) (ta:TE) (f:Str):TE:=fun σ H Q=>ta σ H fun x H1=>∃ a C dx fs v,x=.ref a/\H1 a=some (.ins C dx fs)/\Cls K C/\NoAttr K C f/\fs.lookup f=some v/\Q v H1
def sFld (K:PySem.W.Frag) (ta tv:TE) (f:Str):TS:=fun D σ H=>tv σ H fun y H1=>ta σ H1 fun x H2=>∃ a C dx fs,x=.ref a/\H2 a=some (.ins C dx fs)/\Cls K C/\NoAttr K C f/\fs.length < 1000 /\
 D.nx σ (upd H2 a (.ins C dx (putF f y fs)))
def InOp (X:Cx) (op:Operator) (rd:V->V->Hp->VK->Prop):Prop :=
 ∀(pins:List (Addr×Obj)) (s:Shared) (σ:St) (H:Hp) (x y:V) (u v:Value) (Q:VK),Inv X pins σ H s->RelV x u->RelV y v->rd x y H Q->wpAny (model X.prog X.w) X.A (inplaceOp op u v) (EP X pins σ Q) X.xe s
section
variable {X:Cx}{o e value:Expr}{f:Str}{pos pos' tpos:Pos}{ta tv:TE}
theorem pe_fld (he:PE X e ta) (hb:attributeBase e f X.env (eval e X.env)=eval e X.env):PE X (.Attribute e f pos) (tFld X.K ta f):=by
 intro pins s σ H Q I h
 refine attr_of hb (thn (he pins s σ H _ I h) fun u s1 ⟨x,H1,I1,rx,a,C,dx,fs,v,ex,ea,c,n,l,q⟩=>?_)
 subst ex
 obtain rfl:u=Value.ref a:=rx
 exact getattr_ok I1 ea c n l fun u' s2 I2 ru=>⟨v,H1,I2,ru,q⟩
theorem ps_fld (ha:PE X o ta) (hv:PE X value tv) (hs:swapsWith value (some (.Attribute o f pos')) pos.line X.env=pure false):PS X (.Assign [.Attribute o f pos'] value pos) (sFld X.K ta tv f):=by
 intro pins s σ H D I h
 refine plainObj_wpAny_Assign_Attribute (thn (hv pins s σ H _ I h) fun u s1 ⟨y,H1,I1,ry,q⟩=>thn (ha pins s1 σ H1 _ I1 q) fun ov s2 ⟨x,H2,I2,rx,a,C,dx,fs,ex,ea,c,n,l,q2⟩=>?_) hs
 subst ex
 obtain rfl:ov=Value.ref a:=rx
 exact setattr_ok I2 ea c n l ry fun s3 I3=>⟨σ,_,I3,q2⟩
def rSub:V->V->Hp->VK->Prop:=fun x y H Q=>∃ i j,x=.int i/\y=.int j/\Q (.int (i - j)) H
theorem in_sub:InOp X .Sub rSub:=by
 rintro pins s σ H x y u v Q I rx ry ⟨i,j,rfl,rfl,q⟩
 obtain ⟨t,rfl⟩:=(show ∃ t,u=Value.int i t from rx)
 obtain ⟨t',rfl⟩:=(show ∃ t',v=Value.int j t' from ry)
 exact PyProof.Rows.isub_int ⟨.int (i - j),H,I.tok _,⟨_,rfl⟩,q⟩
end
section
variable {X:Cx}{pins:List (Addr×Obj)}{σ:St}{H:Hp}{s:Shared}{A:Around}{E:Value->Shared->Prop}{Q:Value->Shared->Prop}{c:Value}{b:Bool}
inductive TyOf (K:PySem.W.Frag) (H:Hp):V->Value->Prop where
 | non:TyOf K H .non (.type "NoneType")
 | bl (x:Bool):TyOf K H (.bl x) (.type "bool")
 | int (i:Int):TyOf K H (.int i) (.type "int")
 | str (x:Str):TyOf K H (.str x) (.type "str")
 | flt (x:UInt64):TyOf K H (.flt x) (.type "float")
 | lst {a:Addr} {xs:List V} (e:H a=some (.lst xs)):TyOf K H (.ref a) (.type "list")
 | frz {a:Addr} {o:Obj} {xs:List V} (e:H a=some (.frz o (.lst xs))):TyOf K H (.ref a) (.type "list")
 | tup {a:Addr} {xs:List V} (e:H a=some (.tup xs)):TyOf K H (.ref a) (.type "tuple")
 | dK {a:Addr} {kvs:List (Key×V)} (e:H a=some (.dK kvs)):TyOf K H (.ref a) (.type "dict")
 | dT {a:Addr} {kvs:List (List Key×V)} (e:H a=some (.dT kvs)):TyOf K H (.ref a) (.type "dict")
 | ins {a C dx:Addr} {fs:List (Str×V)} (e:H a=some (.ins C dx fs)) (cl:Cls K C) (ha:PySem.W.findIn K (.ref C) "__class__" = some (some (.builtin "object.__class__")))
   (hn:PySem.W.specialIn K (.builtin "object.__class__") "__get__" = some (some (.builtin "getset_descriptor.__get__"))) (htk:PySem.W.takesIn K (.builtin "object.__class__")=some true)
   (hm:PySem.W.mroIn K C (.type "object")=some true):TyOf K H (.ref a) (.ref C)
end
end L2
namespace L2
open PySem PySem.Spec PyProof.Rows
structure Room (k:Nat) (A:Around):Prop where
 hd:A.handled=none
 dp:A.depth + 3 * k + 5 < recursionLimit
 un:A.units + 16 * k + 200 < cLine
theorem Room.mono {j k:Nat}{A:Around}(r:Room k A) (h:j<=k):Room j A:=⟨r.hd,by have:=r.dp; omega,by have:=r.un; omega⟩
theorem Room.deeper {k:Nat}{A:Around}(r:Room (k + 1) A) (env:Env):Room k (A.deeper env) :=
 ⟨r.hd,by have:=r.dp; show A.depth + 1 + 3 * k + 5 < _; omega,by have:=r.un; show A.units + 3 + 16 * k + 200 < _; omega⟩
theorem Room.in1 {k:Nat}{A:Around}(r:Room (k + 1) A):Room k A.in1 :=
 ⟨r.hd,by have:=r.dp; show A.depth + 3 * k + 5 < _; omega,by have:=r.un; show A.units + 1 + 16 * k + 200 < _; omega⟩
theorem make_depth {A:Around}{C:Addr}{us:List Value}{kw:List (Str×Value)}:(A.under (.builtin "type.__call__" ⟨.ref C :: us,kw⟩)).depth=A.depth + 1:=by
 first | rfl | simp [Around.under,Code.weight,Code.isCreation,Code.isGuard,Code.isCaller,Code.frames,Code.isFrame,guardIds]
theorem make_units {A:Around}{C:Addr}{us:List Value}{kw:List (Str×Value)}:(A.under (.builtin "type.__call__" ⟨.ref C :: us,kw⟩)).units=A.units + 1:=by
 first | rfl | simp [Around.under,Code.cUnits,Code.frames,Code.isFrame]
theorem Room.make {k:Nat}{A:Around}(r:Room (k + 1) A) (C:Addr) (us:List Value) (kw:List (Str×Value)):Room k (A.under (.builtin "type.__call__" ⟨.ref C :: us,kw⟩)) :=
 ⟨r.hd,by have:=r.dp; rw [make_depth]; omega,by have:=r.un; rw [make_units]; omega⟩
theorem Room.depth {k:Nat}{A:Around}(r:Room k A):A.depth < recursionLimit:=by have:=r.dp; omega
theorem Room.units {k:Nat}{A:Around}(r:Room k A):A.units + 64 < cLine:=by have:=r.un; omega
theorem Room.units0 {k:Nat}{A:Around}(r:Room k A):A.units < cLine:=by have:=r.un; omega
def tNil:TA:=fun _ H Q=>Q [] H
def tCons (ta:TE) (tr:TA):TA:=fun σ H Q=>ta σ H fun x H1=>tr σ H1 fun xs H2=>Q (x :: xs) H2
section
variable {X:Cx}{e:Expr}{es:List Expr}{te:TE}{t:TA}{pos:Pos}
theorem pa_nil:PA X [] tNil:=fun _ _ _ _ H Q I h=>Calls.spliced_nil ⟨[],H,I,.nil,h⟩
theorem pa_cons (ha:PE X e te) (hr:PA X es t) (hs:starEach (e :: es) X.env=(false,eval e X.env) :: starEach es X.env:=by rfl):PA X (e :: es) (tCons te t):=by
 intro pos pins s σ H Q I h
 rw [hs]
 show wpAny _ _ (spliced ((false,eval e X.env) :: backTo pos (starEach es X.env))) _ _ s
 refine Calls.spliced_cons (thn (ha pins s σ H _ I h) fun u s1 ⟨x,H1,I1,r1,q1⟩=>?_)
 exact thn (hr pos pins s1 σ H1 _ I1 q1) fun us s2 ⟨xs,H2,I2,r2,q2⟩=>⟨x :: xs,H2,I2,.cons r1 r2,q2⟩
def tTup (t:TA):TE:=fun σ H Q=>t σ H fun xs H1=>xs.length<=sizeLine/\∀ p,H1 p=none->Q (.ref p) (upd H1 p (.tup xs))
def tLst (t:TA):TE:=fun σ H Q=>t σ H fun xs H1=>xs.length<=sizeLine/\∀ p,H1 p=none->Q (.ref p) (upd H1 p (.lst xs))
theorem pe_tup {x1}(h:PA X es t):PE X (.Tuple es x1 pos) (tTup t):=by
 intro pins s σ H Q I hq
 refine wpAny_Tuple_spliced (thn (h pos pins s σ H _ I hq) fun us s1 ⟨xs,H1,I1,r,z,q⟩=>⟨by rw [<- r.length]; exact z,?_⟩)
 have hf:H1 s1.heap.objs.size=none:=I1.hok.fresh (Nat.le_refl _)
 refine ⟨.ref s1.heap.objs.size,upd H1 s1.heap.objs.size (.tup xs),I1.laid (t':=s1.toks) (fun b u e=>Heap.get?_push_of_some _ e) (Nat.le_refl _) ?_,rfl,q _ hf⟩
 exact ⟨z,us,r,⟨_,Heap.get?_push_size _ rfl,rfl,_,rfl⟩⟩
theorem pe_lst (h:PA X es t):PE X (.List es pos) (tLst t):=by
 intro pins s σ H Q I hq
 refine wpAny_List_spliced (thn (h pos pins s σ H _ I hq) fun us s1 ⟨xs,H1,I1,r,z,q⟩=>⟨by rw [<- r.length]; exact z,?_⟩)
 have hf:H1 s1.heap.objs.size=none:=I1.hok.fresh (Nat.le_refl _)
 refine ⟨.ref s1.heap.objs.size,upd H1 s1.heap.objs.size (.lst xs),I1.laid (t':=s1.toks) (fun b u e=>Heap.get?_push_of_some _ e) (Nat.le_refl _) ?_,rfl,q _ hf⟩
 exact ⟨z,us,0,r,Heap.get?_push_size _ rfl⟩
end
abbrev Sp:=List V->Hp->VK->XK->Prop
abbrev CXT:=List Env->Hp->Shared->XK->Value->Shared->Prop
structure Env0 (P:Program) (w:World) (K:PySem.W.Frag) (mg:Str->Option Value) (base:Heap) (A:Around) (outer:List Env) (s:Shared) (H:Hp):Prop where
 frames:A.frames=some outer
 mod:Mod K mg base
 bs:∀ b o,base.get? b=some o->s.heap.get? b=some o/\H b=none
 bsz:base.objs.size<=s.heap.objs.size
 funs:s.heap.FunFrames base outer
 frf:∀ b∈frs outer,H b=none
 hok:HOk P w H s.heap
 bare:AllBare s.gens
def CE (outer:List Env) (P:Program) (w:World) (H:Hp) (s:Shared) (Q:VK) (u:Value) (s':Shared):Prop :=
 ∃ v H',s'.os=s.os/\AllBare s'.gens/\Un (frs outer) [] H H' s.heap s'.heap/\HOk P w H' s'.heap/\RelV v u/\Q v H'
def CR (CX:CXT) (outer:List Env) (P:Program) (w:World) (H:Hp) (s:Shared) (Q:VK) (E:XK) (r:Result) (s':Shared):Prop :=
 match r with
 | .ok (.ret u)=>CE outer P w H s Q u s'
 | .ok _=>False
 | .error e=>CX outer H s E e s'
structure FnOk (P:Program) (w:World) (K:PySem.W.Frag) (mg:Str->Option Value) (base:Heap) (CX:CXT) (k:Nat) (f:Addr) (fd:FuncData) (ps:List Str) (sp:Sp):Prop where
 len:∀ vs H Q E,sp vs H Q E->vs.length=ps.length
 run:∀(A:Around) (outer:List Env) (s:Shared) (H:Hp) (args:Args) (us:List Value) (vs:List V) (Q:VK) (E:XK),Room k A->Env0 P w K mg base A outer s H->BindsTo s fd args (ps.zip us)->Vals vs us->sp vs H Q E ->
  codeAny (model P w) A (.call (.ref f) args) (CR CX outer P w H s Q E) s
theorem FnOk.mono {P:Program}{w:World}{K:PySem.W.Frag}{mg:Str->Option Value}{base:Heap}{CX:CXT}{j k:Nat}{f:Addr}{fd:FuncData}{ps:List Str}{sp:Sp}(F:FnOk P w K mg base CX j f fd ps sp) (h:j<=k) :
  FnOk P w K mg base CX k f fd ps sp:=⟨F.len,fun A outer s H args us vs Q E hr=>F.run A outer s H args us vs Q E (hr.mono h)⟩
theorem FnOk.imp {P:Program}{w:World}{K:PySem.W.Frag}{mg:Str->Option Value}{base:Heap}{CX:CXT}{k:Nat}{f:Addr}{fd:FuncData}{ps:List Str}{sp sp':Sp}(F:FnOk P w K mg base CX k f fd ps sp)
  (h:∀ vs H Q E,sp' vs H Q E->sp vs H Q E):FnOk P w K mg base CX k f fd ps sp' :=
 ⟨fun vs H Q E q=>F.len vs H Q E (h _ _ _ _ q),fun A outer s H args us vs Q E hr he hb hv hs=>F.run A outer s H args us vs Q E hr he hb hv (h _ _ _ _ hs)⟩
theorem Env0.make {P:Program}{w:World}{K:PySem.W.Frag}{mg:Str->Option Value}{base:Heap}{A:Around}{outer:List Env}{s:Shared}{H:Hp}(e:Env0 P w K mg base A outer s H) (C:Addr) (us:List Value) (kw:List (Str×Value)) :
  Env0 P w K mg base (A.under (.builtin "type.__call__" ⟨.ref C :: us,kw⟩)) outer s H:=⟨by first | exact e.frames | (simpa [Around.under,Code.envs,Code.isFrame,pushEnvs] using e.frames),e.mod,e.bs,e.bsz,e.funs,e.frf,e.hok,e.bare⟩
theorem Env0.in1 {P:Program}{w:World}{K:PySem.W.Frag}{mg:Str->Option Value}{base:Heap}{A:Around}{outer:List Env}{s:Shared}{H:Hp}(e:Env0 P w K mg base A outer s H) :
  Env0 P w K mg base A.in1 outer s H:=⟨e.frames,e.mod,e.bs,e.bsz,e.funs,e.frf,e.hok,e.bare⟩
section
variable {X:Cx}{pins:List (Addr×Obj)}{σ:St}{H:Hp}{s s':Shared}
theorem Inv.env0 (I:Inv X pins σ H s):Env0 X.prog X.w X.K X.mg X.base X.A X.stack s H :=
 ⟨I.ok.frames,I.ok.mod,I.bs,Nat.le_trans I.ok.bsz I.sz,I.stack,I.stkFree,I.hok,I.bare⟩
theorem Inv.after {Q:VK}{u:Value}(I:Inv X pins σ H s) (h:CE X.stack X.prog X.w H s Q u s'):EP X pins σ Q u s':=by
 obtain ⟨v,H',os,bare,un,hok,r,q⟩:=h
 obtain ⟨hh,g,d,t,os'⟩:=s'
 obtain rfl:os'=s.os:=os
 exact ⟨v,H',I.call (h':=hh) (g':=g) (d':=d) (t':=t) (ch:=[]) un hok bare (fun b z=>absurd z (by simp)),r,q⟩
end
def tCall (sp:Sp) (dvs:List V) (E:XK) (t:TA):TE:=fun σ H Q=>t σ H fun vs H1=>sp (vs ++ dvs) H1 Q E
def tMeth (C:Addr) (m:Str) (sp:Sp) (dvs:List V) (E:XK) (ta:TE) (t:TA):TE:=fun σ H Q=>ta σ H fun x H1=>∃ a dx fs,x=.ref a/\H1 a=some (.ins C dx fs)/\fs.lookup m=none /\
 t σ H1 fun vs H2=>sp (x :: (vs ++ dvs)) H2 Q E
def tMake (C:Addr) (sp:Sp) (dvs:List V) (E:XK) (t:TA):TE:=fun σ H Q=>t σ H fun vs H1=>∀ x dx,H1 x=none->H1 dx=none->dx≠x ->
 sp (.ref x :: (vs ++ dvs)) (upd (upd H1 dx (.own x)) x (.ins C dx [])) (fun v H2=>v=.non/\Q (.ref x) H2) E
def Binds (K:PySem.W.Frag) (fd:FuncData) (ps:List Str) (ds:List Value):Prop :=
 ∀(s:Shared) (us:List Value),K.In s.heap->(us ++ ds).length=ps.length->BindsTo s fd ⟨us,[]⟩ (ps.zip (us ++ ds))
theorem Binds.all {K:PySem.W.Frag}{fd:FuncData}{ps:List Str}(h:∀ us:List Value,us.length=ps.length->bindArgs fd ⟨us,[]⟩=pure (ps.zip us)):Binds K fd ps []:=fun s us _ hl=>by
 rw [List.append_nil] at hl ⊢
 exact .of_eq (h us hl)
def Passes (CX:CXT) (X:Cx) (E:XK):Prop:=∀(pins:List (Addr×Obj)) (σ:St) (H:Hp) (s:Shared) (e:Value) (s':Shared),Inv X pins σ H s->CX X.stack H s E e s'->X.xe e s'
section
variable {X:Cx}{CX:CXT}{k:Nat}{f C:Addr}{fd:FuncData}{ps:List Str}{sp:Sp}{dvs:List V}{ds:List Value}{E:XK}{x m:Str}{p pos apos:Pos}{e o:Expr}{es:List Expr}{ta:TE}{t:TA}
theorem run_fn {pins:List (Addr×Obj)}{σ:St}{H:Hp}{s:Shared}{Q:VK}{us:List Value}{vs:List V}(F:FnOk X.prog X.w X.K X.mg X.base CX k f fd ps sp) (hr:Room k X.A) (hb:Binds X.K fd ps ds) (hd:Vals dvs ds) (hx:Passes CX X E)
  (I:Inv X pins σ H s) (r:Vals vs us) (h:sp (vs ++ dvs) H Q E):wpAny (model X.prog X.w) X.A (call (.ref f) us) (EP X pins σ Q) X.xe s:=by
 have r2:Vals (vs ++ dvs) (us ++ ds):=r.append hd
 have hl:(us ++ ds).length=ps.length:=by rw [<- r2.length]; exact F.len _ _ _ _ h
 refine wpAny_call (codeAny_mono (F.run X.A X.stack s H ⟨us,[]⟩ (us ++ ds) (vs ++ dvs) Q E hr I.env0 (hb s us I.kIn hl) r2 h) fun r s' hq=>?_)
 cases r with
 | error e=>exact hx pins σ H s e s' I hq
 | ok fl =>
  cases fl with
  | ret u=>exact I.after hq
  | next=>exact False.elim hq
  | brk=>exact False.elim hq
  | cont=>exact False.elim hq
theorem pe_call (F:FnOk X.prog X.w X.K X.mg X.base CX k f fd ps sp) (hr:Room k X.A) (hg:Gl X x) (hm:X.mg x=some (.ref f)) (hk:PySem.W.keepIn X.K (.ref f)=true) (hb:Binds X.K fd ps ds) (hd:Vals dvs ds) (hx:Passes CX X E)
  (ha:PA X (e :: es) t) (hdb:(x == ("__debug__" : Str))=false:=by decide) (he:starEach (e :: es) X.env=(false,eval e X.env) :: starEach es X.env:=by rfl) (hpl:(backTo pos (starEach es X.env)).any (·.1)=false:=by rfl) :
  PE X (.Call (.Name x p) (e :: es) [] pos) (tCall sp dvs E t):=by
 intro pins s σ H Q I h
 refine wpAny_Call_Name_kw (ld_glob I hg hm ?_ hdb)
 refine PySem.W.callWith_K (h₀:=X.base) I.ok.mod.kin hk (thn (ha pos pins s σ H _ I h) fun us s1 ⟨vs,H1,I1,r,q⟩=>⟨I1.kIn,?_⟩) he hpl
 exact run_fn F hr hb hd hx I1 r q
theorem pe_meth {pl:Sem Bool}(he:PE X o ta) (c:Cls X.K C) (hm:Meth X.K C m f) (F:FnOk X.prog X.w X.K X.mg X.base CX k f fd ps sp) (hr:Room k X.A) (hb:Binds X.K fd ps ds) (hd:Vals dvs ds) (hx:Passes CX X E) (ha:PA X (e :: es) t)
  (hst:starEach (e :: es) X.env=(false,eval e X.env) :: starEach es X.env:=by rfl) (hpl:(backTo pos (starEach es X.env)).any (·.1)=false:=by rfl)
  (ht:eval (.Call (.Attribute o m apos) (e :: es) [] pos) X.env=(do
   let ov <- eval o X.env
   standAt apos.atName
   let (f,first) <- holding [ov] (getMethod ov m pl)
   callWith pos f first (backTo pos (starEach (e :: es) X.env)) (backToKw pos (keywordEach [] X.env))):=by rfl) :
  PE X (.Call (.Attribute o m apos) (e :: es) [] pos) (tMeth C m sp dvs E ta t):=by
 intro pins s σ H Q I h
 refine PySem.W.methodCall_KW (pl:=pl) (thn (he pins s σ H _ I h) fun u s1 ⟨x,H1,I1,rx,a,dx,fs,ex,ea,l,q⟩=>?_) ht
 subst ex
 obtain rfl:u=Value.ref a:=rx
 refine getmeth_ok I1 ea c hm l ?_
 refine PySem.W.callWith_K (first:=[.ref a]) (h₀:=X.base) I.ok.mod.kin hm.kp (thn (ha pos pins s1 σ H1 _ I1 q) fun us s2 ⟨vs,H2,I2,r,q2⟩=>⟨I2.kIn,?_⟩) hst hpl
 exact run_fn (us:=.ref a :: us) (vs:=.ref a :: vs) F hr hb hd hx I2 (.cons rfl r) q2
theorem pe_meth0 {pl:Sem Bool}(he:PE X o ta) (c:Cls X.K C) (hm:Meth X.K C m f) (F:FnOk X.prog X.w X.K X.mg X.base CX k f fd ps sp) (hr:Room k X.A) (hb:Binds X.K fd ps ds) (hd:Vals dvs ds) (hx:Passes CX X E)
  (ht:eval (.Call (.Attribute o m apos) [] [] pos) X.env=(do
   let ov <- eval o X.env
   standAt apos.atName
   let (f,first) <- holding [ov] (getMethod ov m pl)
   callWith pos f first (backTo pos (starEach [] X.env)) (backToKw pos (keywordEach [] X.env))):=by rfl) :
  PE X (.Call (.Attribute o m apos) [] [] pos) (tMeth C m sp dvs E ta tNil):=by
 intro pins s σ H Q I h
 refine PySem.W.methodCall_KW (pl:=pl) (thn (he pins s σ H _ I h) fun u s1 ⟨x,H1,I1,rx,a,dx,fs,ex,ea,l,q⟩=>?_) ht
 subst ex
 obtain rfl:u=Value.ref a:=rx
 refine getmeth_ok I1 ea c hm l ?_
 exact PySem.W.callWith_K0 (first:=[.ref a]) I1.kIn hm.kp (run_fn (us:=[.ref a]) (vs:=[.ref a]) F hr hb hd hx I1 (.cons rfl .nil) q)
structure Mk (K:PySem.W.Frag) (C f:Addr):Prop where
 makes:PySem.W.makesIn K C=true
 init:PySem.W.findIn K (.ref C) "__init__" = some (some (.ref f))
 fn:PySem.W.isFn K (.ref f)=true
 kp:PySem.W.keepIn K (.ref C)=true
theorem run_make {pins:List (Addr×Obj)}{σ:St}{H:Hp}{s:Shared}{Q:VK}{us:List Value}{vs:List V}(M:Mk X.K C f) (F:FnOk X.prog X.w X.K X.mg X.base CX k f fd ps sp) (hr:Room (k + 1) X.A) (hb:Binds X.K fd ps ds) (hd:Vals dvs ds)
  (hx:Passes CX X E) (I:Inv X pins σ H s) (r:Vals vs us)
  (h:∀ x dx,H x=none->H dx=none->dx≠x->sp (.ref x :: (vs ++ dvs)) (upd (upd H dx (.own x)) x (.ins C dx [])) (fun v H2=>v=.non/\Q (.ref x) H2) E) :
  wpAny (model X.prog X.w) X.A (call (.ref C) us) (EP X pins σ Q) X.xe s:=by
 have hq:=h (s.heap.objs.size + 1) s.heap.objs.size (I.hok.fresh (Nat.le_succ _)) (I.hok.fresh (Nat.le_refl _)) (Nat.ne_of_lt (Nat.lt_succ_self _))
 have I2:=Inv.made (C:=C) I
 have r2:Vals (V.ref (s.heap.objs.size + 1) :: (vs ++ dvs)) (Value.ref (s.heap.objs.size + 1) :: (us ++ ds)):=.cons rfl (r.append hd)
 have hl:(Value.ref (s.heap.objs.size + 1) :: us ++ ds).length=ps.length:=by
  have e:=r2.length
  rw [F.len _ _ _ _ hq] at e
  exact e.symm
 refine wpAny_call (make_map (f:=f) I.kIn M.makes M.init (beq_iff_eq.mp M.fn) (codeAny_mono (F.run _ X.stack _ _ ⟨Value.ref (s.heap.objs.size + 1) :: us,[]⟩ (Value.ref (s.heap.objs.size + 1) :: (us ++ ds)) _ _ E (hr.make C us [])
  (I2.env0.make C us []) (hb _ (Value.ref (s.heap.objs.size + 1) :: us) I2.kIn hl) r2 hq) fun r s' hq'=>?_))
 cases r with
 | error e=>exact hx pins σ _ _ e s' I2 hq'
 | ok fl =>
  cases fl with
  | ret u =>
   obtain ⟨v,H',I3,rv,ev,q3⟩:=I2.after hq'
   subst ev
   exact ⟨rv,⟨V.ref (s.heap.objs.size + 1),H',I3,rfl,q3⟩⟩
  | next=>exact False.elim hq'
  | brk=>exact False.elim hq'
  | cont=>exact False.elim hq'
theorem pe_make (M:Mk X.K C f) (F:FnOk X.prog X.w X.K X.mg X.base CX k f fd ps sp) (hr:Room (k + 1) X.A) (hg:Gl X x) (hm:X.mg x=some (.ref C)) (hb:Binds X.K fd ps ds) (hd:Vals dvs ds) (hx:Passes CX X E)
  (ha:PA X (e :: es) t) (hdb:(x == ("__debug__" : Str))=false:=by decide) (he:starEach (e :: es) X.env=(false,eval e X.env) :: starEach es X.env:=by rfl) (hpl:(backTo pos (starEach es X.env)).any (·.1)=false:=by rfl) :
  PE X (.Call (.Name x p) (e :: es) [] pos) (tMake C sp dvs E t):=by
 intro pins s σ H Q I h
 refine wpAny_Call_Name_kw (ld_glob I hg hm ?_ hdb)
 refine PySem.W.callWith_K (h₀:=X.base) I.ok.mod.kin M.kp (thn (ha pos pins s σ H _ I h) fun us s1 ⟨vs,H1,I1,r,q⟩=>⟨I1.kIn,?_⟩) he hpl
 exact run_make M F hr hb hd hx I1 r q
end
section
variable {X:Cx}{CX:CXT}{k:Nat}{f C:Addr}{fd:FuncData}{ps ks:List Str}{sp:Sp}{E:XK}{x m:Str}{p pos apos kpos:Pos}{e o:Expr}{es:List Expr}{kws:List Keyword}{te ta:TE}{t tk:TA}{nm:Option Str}
structure KBinds (K:PySem.W.Frag) (fd:FuncData) (ps ks:List Str) (g:List Value->List Value->List Value) (gV:List V->List V->List V):Prop where
 to:∀(s:Shared) (us ws:List Value),K.In s.heap->(g us ws).length=ps.length->BindsTo s fd ⟨us,ks.zip ws⟩ (ps.zip (g us ws))
 rel:∀{vs:List V} {us:List Value} {zs:List V} {ws:List Value},Vals vs us->Vals zs ws->Vals (gV vs zs) (g us ws)
variable {g:List Value->List Value->List Value}{gV:List V->List V->List V}
end
structure FnScope (N P:List Str) (sc:Scope):Prop where
 kind:sc.kind=.function
 co:sc.isCoroutine=false
 gen:sc.isGenerator=false
 nd:N.Nodup
 pre:N.take P.length=P
 par:∀ x∈P,sc.names.lookup x=some .local∨sc.names.lookup x=some .cell
 nofree:∀ y∈sc.names,y.2≠.free
theorem bindL_out {kindOf:Str->Option NameKind}{x:Str}:∀{binds:List (Str×Value)}{m:Str->Option Value},(∀ v,(x,v)∉binds)->bindL kindOf binds m x=m x
 | [],_,_=>rfl
 | (n,v) :: r,m,h=>by
  unfold bindL
  rw [bindL_out fun w hw=>h w (List.mem_cons_of_mem _ hw)]
  split
  ·have:x≠n:=by rintro rfl; exact h v List.mem_cons_self
   simp [this]
  ·rfl
theorem bindC_out {kindOf:Str->Option NameKind}{x:Str}:∀{binds:List (Str×Value)}{m:Str->Option Value},(∀ v,(x,v)∉binds)->bindC kindOf binds m x=m x
 | [],_,_=>rfl
 | (n,v) :: r,m,h=>by
  unfold bindC
  rw [bindC_out fun w hw=>h w (List.mem_cons_of_mem _ hw)]
  split
  ·rfl
  ·have:x≠n:=by rintro rfl; exact h v List.mem_cons_self
   simp [this]
theorem bindL_get {kindOf:Str->Option NameKind}{x:Str}{v:Value}:∀{P:List Str}{vs:List Value}{i:Nat}{m:Str->Option Value},P.Nodup->P[i]? = some x->vs[i]? = some v->kindOf x=some .local ->
  bindL kindOf (P.zip vs) m x=some v
 | [],_,_,_,_,h,_,_=>by simp at h
 | _ :: _,[],_,_,_,_,h,_=>by simp at h
 | p :: P,w :: vs,0,m,nd,h1,h2,hk=>by
  simp at h1 h2; subst h1; subst h2
  show bindL kindOf ((p,w) :: P.zip vs) m p=_
  unfold bindL
  rw [bindL_out fun v hv=>(List.nodup_cons.mp nd).1 (List.of_mem_zip hv).1,if_pos hk]
  simp
 | p :: P,w :: vs,i + 1,m,nd,h1,h2,hk=>by
  show bindL kindOf ((p,w) :: P.zip vs) m x=_
  unfold bindL
  exact bindL_get (i:=i) (List.nodup_cons.mp nd).2 (by simpa using h1) (by simpa using h2) hk
theorem bindC_get {kindOf:Str->Option NameKind}{x:Str}{v:Value}:∀{P:List Str}{vs:List Value}{i:Nat}{m:Str->Option Value},P.Nodup->P[i]? = some x->vs[i]? = some v->kindOf x≠some .local ->
  bindC kindOf (P.zip vs) m x=some v
 | [],_,_,_,_,h,_,_=>by simp at h
 | _ :: _,[],_,_,_,_,h,_=>by simp at h
 | p :: P,w :: vs,0,m,nd,h1,h2,hk=>by
  simp at h1 h2; subst h1; subst h2
  show bindC kindOf ((p,w) :: P.zip vs) m p=_
  unfold bindC
  rw [bindC_out fun v hv=>(List.nodup_cons.mp nd).1 (List.of_mem_zip hv).1,if_neg hk]
  simp
 | p :: P,w :: vs,i + 1,m,nd,h1,h2,hk=>by
  show bindC kindOf ((p,w) :: P.zip vs) m x=_
  unfold bindC
  exact bindC_get (i:=i) (List.nodup_cons.mp nd).2 (by simpa using h1) (by simpa using h2) hk
def start (N:List Str) (vs:List V):St:=vs.map some ++ List.replicate (N.length - vs.length) none
def cxOf (CX:CXT) (P:Program) (w:World) (K:PySem.W.Frag) (mg:Str->Option Value) (base:Heap) (N:List Str) (qual:Str) (scope:Scope) (f:Addr) (cd:Value) (A:Around) (outer:List Env) (s:Shared) (H:Hp) (E:XK):Cx where
 prog:=P
 w:=w
 K:=K
 mg:=mg
 base:=base
 A:=A.deeper (envOfC qual scope s.heap.objs.size f cd)
 N:=N
 s₀:=s
 H₀:=H
 env:=envOfC qual scope s.heap.objs.size f cd
 outer:=outer
 stack:=envOfC qual scope s.heap.objs.size f cd :: outer
 ex:=[]
 calm:=true
 fn:=fun _=>true
 pn:=[]
 xe:=fun e s'=>wpAny (model P w) (A.deeper (envOfC qual scope s.heap.objs.size f cd)) (leaving (envOfC qual scope s.heap.objs.size f cd) e) (fun _ s''=>CX outer H s E e s'') (fun e' s''=>CX outer H s E e' s'') s'
theorem cell_has {sc:Scope}{n:Nat}{x:Str}(h:sc.names.lookup x=some .cell):∃ c,(cellsFrom n sc.names []).lookup x=some c:=by
 have q:=PySem.W.cellsFrom_some sc.names n [] (.inl h)
 exact Option.isSome_iff_exists.mp q
theorem inv_start {CX:CXT}{P:Program}{w:World}{K:PySem.W.Frag}{mg:Str->Option Value}{base:Heap}{N ps:List Str}{qual:Str}{scope:Scope}{f:Addr}{cd:Value}{A:Around}{outer:List Env}{s s1:Shared}{H:Hp}{E:XK}{us:List Value}{vs:List V}
  (S:FnScope N ps scope) (hd:A.handled=none) (e0:Env0 P w K mg base A outer s H) (hl:vs.length=ps.length) (r:Vals vs us)
  (x:InCallC s s.heap.objs.size (bindL (envOfC qual scope s.heap.objs.size f cd).kindOf (ps.zip us) fun _=>none) (cellsFrom (s.heap.objs.size + 1) scope.names []) (bindC (envOfC qual scope s.heap.objs.size f cd).kindOf (ps.zip us) fun _=>none) s1) :
  Inv (cxOf CX P w K mg base N qual scope f cd A outer s H E) [] (start N vs) H s1:=by
 have hpl:ps.length<=N.length:=by have:=congrArg List.length S.pre; rw [List.length_take] at this; omega
 obtain ⟨h1,tk,rfl,hk⟩:=x.done
 have noA:∀ b:Addr,b∉(cxOf CX P w K mg base N qual scope f cd A outer s H E).ex:=fun b z=>absurd (show b∈([]:List Addr) from z) (by simp)
 refine ⟨⟨e0.mod,S.kind,rfl,rfl,Nat.le_refl _,fun y z c h1 h2=>?_,fun y hy=>?_,fun y c _ h=>?_,fun _=>hd,Around.frames_deeper e0.frames,.inr ⟨rfl,rfl⟩,fun b z=>absurd z (noA b),e0.bs,e0.bsz,fun b _ _=>noA b,fun b z=>absurd z (noA b),e0.funs,e0.frf⟩,
  rfl,e0.bare,Un.kept hk,⟨_,x.toInCall.ns,fun i y v h1 h2 h3=>?_⟩,fun y c h=>⟨_,x.cell y c h⟩,e0.hok.fresh (Nat.le_refl _),fun y c h=>?_,fun p hp=>absurd (show p∈([]:List (Addr×Obj)) from hp) (by simp),e0.hok.kept hk,?_⟩
 ·exact name_of_addr x.apart (PySem.mem_of_lookup h1) (PySem.mem_of_lookup h2)
 ·have hy:scope.names.lookup y=some .cell∨scope.names.lookup y=some .free:=hy
  rcases hy with hy | hy
  ·exact cell_has hy
  ·exact absurd rfl (S.nofree _ (PySem.mem_of_lookup hy))
 ·exact Nat.le_of_lt (x.above y c (PySem.mem_of_lookup h))
 ·have hi:i < vs.length:=by
   unfold start at h2
   by_cases hi:i < vs.length
   ·exact hi
   ·rw [List.getElem?_append_right (by simpa using hi)] at h2
    rw [List.getElem?_replicate] at h2
    split at h2 <;> cases h2
  have ha:vs[i]? = some v:=by
   unfold start at h2
   rw [List.getElem?_append_left (by simpa using hi),List.getElem?_map] at h2
   cases e:vs[i]? with
   | none=>rw [e] at h2; cases h2
   | some a=>rw [e] at h2; cases h2; rfl
  obtain ⟨u,hu,rv⟩:=r.get ha
  have hp:ps[i]? = some y:=by
   rw [<- S.pre,List.getElem?_take_of_lt (by omega)]; exact h1
  have ndP:ps.Nodup:=by rw [<- S.pre]; exact S.nd.sublist (List.take_sublist _ _)
  refine ⟨u,rv,?_⟩
  rcases S.par y (List.mem_of_getElem? hp) with k | k
  ·exact .inl ⟨k,bindL_get ndP hp hu k⟩
  ·obtain ⟨c,e⟩:=cell_has (n:=s.heap.objs.size + 1) k
   refine .inr ⟨.inl k,c,e,?_⟩
   have q:=x.cell y c e
   rw [bindC_get ndP hp hu (by show scope.names.lookup y≠_; rw [k]; decide)] at q
   exact q
 ·exact e0.hok.fresh (Nat.le_of_lt (x.above y c (PySem.mem_of_lookup h)))
 ·unfold start
  show _=N.length
  rw [List.length_append,List.length_map,List.length_replicate]
  omega
theorem fn_of {CX:CXT}{P:Program}{w:World}{K:PySem.W.Frag}{mg:Str->Option Value}{base:Heap}{k:Nat}{f:Addr}{name qual:Str}{params:Arguments}{body:List Stmt}{scope:Scope}{dV kV doc pm cdv ct oc:Value}{an od:Option Addr}
  {osl:Array (Option Value)} {N ps:List Str} {sp:Sp} (lk:K.lookup f=some ⟨oc,od,.func (PySem.W.fnOf name qual params body scope dV kV doc pm an cdv ct),osl⟩) (hcd:PySem.W.codeIn K cdv qual=true) (S:FnScope N ps scope)
  (len:∀ vs H Q E,sp vs H Q E->vs.length=ps.length)
  (hbody:∀(A:Around) (outer:List Env) (s:Shared) (H:Hp) (vs:List V) (Q:VK) (E:XK),Room k (A.deeper (envOfC qual scope s.heap.objs.size f cdv))->sp vs H Q E ->
   ∃ t,PSs (cxOf CX P w K mg base N qual scope f cdv A outer s H E) body t/\t { nx:=fun _ H'=>Q .non H',rt:=Q } (start N vs) H) :
  FnOk P w K mg base CX (k + 1) f (PySem.W.fnOf name qual params body scope dV kV doc pm an cdv ct) ps sp:=by
 refine ⟨len,fun A outer s H args us vs Q E hr e0 hb r hsp=>?_⟩
 have hl:=len _ _ _ _ hsp
 have KX:K.In s.heap:=e0.mod.kin.keeps fun b o e=>(e0.bs b o e).1
 have lim:s.heap.NoLimit:=e0.mod.nolimit.keeps fun b o e=>(e0.bs b o e).1
 have hkind:∀ y∈ps.zip us,scope.names.lookup y.1=some .local∨(scope.names.lookup y.1=some .cell/\((cellsFrom (s.heap.objs.size + 1) scope.names []).lookup y.1).isSome=true):=fun ⟨n,v⟩ hy=>by
  rcases S.par n (List.of_mem_zip hy).1 with q | q
  ·exact .inl q
  ·exact .inr ⟨q,PySem.W.cellsFrom_some _ _ _ (.inl q)⟩
 refine codeAny_call_function hr.depth (KX _ _ lk) rfl S.co S.gen rfl (PySem.W.codeRec_of KX hcd) (hb _ _ _ _ ?_)
 refine wpAny_newFunctionEnv_cells S.kind hkind fun env he s1 x=>?_
 subst he
 refine ⟨lim.keeps x.toInCall.keep,codeAny_func ?_⟩
 obtain ⟨t,ht,hq⟩:=hbody A outer s H vs Q E (hr.deeper _) hsp
 have I:Inv (cxOf CX P w K mg base N qual scope f cdv A outer s H E) [] (start N vs) H s1:=inv_start S hr.hd e0 hl r x
 refine wpAny_mono (ht [] s1 (start N vs) H _ I hq) (fun fl s' hs=>?_) fun e s' hs=>hs
 have fin:∀{σ':St} {H':Hp} {v:V} {u:Value},Inv (cxOf CX P w K mg base N qual scope f cdv A outer s H E) [] σ' H' s'->RelV v u->Q v H'->CE outer P w H s Q u s' :=
  fun {σ' H' v u} J rv q=>⟨v,H',J.os,J.bare,J.base,J.hok,rv,q⟩
 cases fl with
 | ret u =>
  obtain ⟨v,σ',H',J,rv,q⟩:=hs
  exact fin J rv q
 | next =>
  obtain ⟨σ',H',J,q⟩:=hs
  exact fin (v:=V.non) (u:=Value.none) J rfl q
 | brk =>
  obtain ⟨_,_,_,q⟩:=hs
  exact False.elim q
 | cont =>
  obtain ⟨_,_,_,q⟩:=hs
  exact False.elim q
end L2
namespace L2
open PySem PySem.Spec PyProof.Rows
section
variable {X:Cx}{x:Str}{p pos:Pos}{e:Expr}{es:List Expr}{t:TA}{id T:String}{r:List V->Hp->VK->Prop}
def tCB (r:List V->Hp->VK->Prop) (t:TA):TE:=fun σ H Q=>t σ H fun vs H1=>r vs H1 Q
theorem pe_callB (hc:CallR X (.builtin id) r) (hg:Gl X x) (hm:X.mg x=none) (hv:bootBuiltins x=some (.builtin id)) (ha:PA X (e :: es) t) (hn:x ≠ "__name__" := by decide) (hdb:(x == ("__debug__" : Str))=false:=by decide)
  (he:starEach (e :: es) X.env=(false,eval e X.env) :: starEach es X.env:=by rfl) (hpl:(backTo pos (starEach es X.env)).any (·.1)=false:=by rfl):PE X (.Call (.Name x p) (e :: es) [] pos) (tCB r t):=by
 intro pins s σ H Q I h
 refine wpAny_Call_Name_kw (ld_blt I hg hm hv ?_ hn hdb)
 exact PyProof.Rows.callWith_builtin1 (thn (ha pos pins s σ H _ I h) fun us s1 ⟨vs,H1,I1,r1,q1⟩=>hc pins s1 σ H1 vs us Q I1 r1 q1) he hpl
theorem pe_callTy (hc:CallR X (.type T) r) (hg:Gl X x) (hm:X.mg x=none) (hv:bootBuiltins x=some (.type T)) (ha:PA X (e :: es) t) (hn:x ≠ "__name__" := by decide) (hdb:(x == ("__debug__" : Str))=false:=by decide)
  (he:starEach (e :: es) X.env=(false,eval e X.env) :: starEach es X.env:=by rfl) (hpl:(backTo pos (starEach es X.env)).any (·.1)=false:=by rfl):PE X (.Call (.Name x p) (e :: es) [] pos) (tCB r t):=by
 intro pins s σ H Q I h
 refine wpAny_Call_Name_kw (ld_blt I hg hm hv ?_ hn hdb)
 exact PyProof.Rows.callWith_type1 (thn (ha pos pins s σ H _ I h) fun us s1 ⟨vs,H1,I1,r1,q1⟩=>hc pins s1 σ H1 vs us Q I1 r1 q1) he hpl
end
end L2
namespace HT
open PySem PyProof.Rows
section
open PySem.SeqAt
open PySem.AutoSeq1 (wpAny_loadPart')
open PySem.MeetsSeq PySem.MeetsSeq2 PySem.MeetsSeq3
end
section
variable {prog:Program}{w:World}{A:Around}{E:Value->Shared->Prop}{s:Shared}
theorem cat_tup {t b:Addr}{vs ws:List Value}{Q:Value->Shared->Prop}(ht:IsTup s.heap t vs.toArray) (hb:IsTup s.heap b ws.toArray) (hv:vs≠[])
  (h1:ws=[]->Q (.ref t) s) (h2:ws≠[]->Q (.ref s.heap.objs.size) { s with heap:=s.heap.push { cls:=.type "tuple",data:=.seq (vs ++ ws).toArray } })
  (hsz:vs.length + ws.length<=sizeLine):wpAny (model prog w) A (binaryOp .Add (.ref t) (.ref b)) Q E s:=by
 obtain ⟨⟨cls,dd,data,sl⟩,ho,hc,n,hd⟩:=id ht
 obtain ⟨⟨cls2,dd2,data2,sl2⟩,ho2,hc2,n2,hd2⟩:=id hb
 simp only at hc hd hc2 hd2
 subst hc hd hc2 hd2
 have e:vs.toArray ++ ws.toArray=(vs ++ ws).toArray:=by simp
 by_cases hw:ws=[]
 ·exact concat_meets ⟨_,ho,rfl⟩ ⟨_,ho2,rfl⟩ noFill_tuple_add seq_tuple_add PySem.F.slot_tuple_add PySem.F.entry_tuple_add (PySem.F.args_tuple_add_2 _ _)
   (tuple_addW1 t b vs.toArray ws.toArray n n2 dd dd2 sl sl2 (by simpa using hv) (by simp [hw])) ⟨ho,ho2,h1 hw⟩
 ·refine concat_meets ⟨_,ho,rfl⟩ ⟨_,ho2,rfl⟩ noFill_tuple_add seq_tuple_add PySem.F.slot_tuple_add PySem.F.entry_tuple_add (PySem.F.args_tuple_add_2 _ _)
   (tuple_addW2 t b vs.toArray ws.toArray n n2 dd dd2 sl sl2 (by simpa using hv) (by simpa using hw) (by rw [List.size_toArray,List.size_toArray]; exact hsz)) ⟨ho,ho2,?_⟩
  rw [e]
  exact h2 hw
def sIx (n d:Nat):Option Int->Nat
 | none=>d
 | some v=>if v < 0 then (v + (n:Int)).toNat else min v.toNat n
end
end HT
namespace L2
open PySem PySem.Spec PyProof.Rows
abbrev TO:=St->Hp->(Option Int->Hp->Prop)->Prop
def PO (X:Cx) (e:Option Expr) (t:TO):Prop :=
 ∀(pins:List (Addr×Obj)) (s:Shared) (σ:St) (H:Hp) (Q:Option Int->Hp->Prop),Inv X pins σ H s->t σ H Q ->
  wpAny (model X.prog X.w) X.A (evalPart e X.env) (fun u s'=>∃ o H',Inv X pins σ H' s'/\IsPart u o/\Q o H') X.xe s
def tNoPart:TO:=fun _ H Q=>Q none H
def tPart (t:TE):TO:=fun σ H Q=>t σ H fun x H1=>∃ i,x=.int i/\Q (some i) H1
section
variable {X:Cx}{e:Expr}{te:TE}{lo hi:Option Expr}{tl th:TO}{pos p2:Pos}
theorem po_none:PO X none tNoPart:=by
 intro pins s σ H Q I h
 rw [evalPart_none]
 exact wpAny_pure ⟨none,H,I,.none,h⟩
theorem po_some (h:PE X e te):PO X (some e) (tPart te):=by
 intro pins s σ H Q I hw
 rw [evalPart_some]
 refine thn (h pins s σ H _ I hw) fun u s1 ⟨x,H1,I1,r1,q1⟩=>?_
 obtain ⟨i,rfl,q⟩:=q1
 obtain ⟨t,rfl⟩:=r1
 exact ⟨some i,H1,I1,.int i t,q⟩
def SlR (X:Cx) (r:V->Option Int->Option Int->Hp->VK->Prop):Prop :=
 ∀(pins:List (Addr×Obj)) (s:Shared) (σ:St) (H:Hp) (x:V) (v vl vu:Value) (lo hi:Option Int) (sl:Addr) (Q:VK),Inv X pins σ H s->RelV x v->s.heap.IsSliceOf sl vl vu .none->IsPart vl lo->IsPart vu hi->r x lo hi H Q ->
  ∃ T id,typeLookup (.type T) "__getitem__" = pure (some (.builtin id))/\s.TypeIs v T/\wpAny (model X.prog X.w) X.A (getItem v (.ref sl)) (EP X pins σ Q) X.xe s
theorem SlR.or {r r':V->Option Int->Option Int->Hp->VK->Prop}(h:SlR X r) (h':SlR X r'):SlR X (fun x lo hi H Q=>r x lo hi H Q∨r' x lo hi H Q):=by
 intro pins s σ H x v vl vu lo hi sl Q I rx hs pl pu q
 rcases q with q | q
 ·exact h pins s σ H x v vl vu lo hi sl Q I rx hs pl pu q
 ·exact h' pins s σ H x v vl vu lo hi sl Q I rx hs pl pu q
def tSl (r:V->Option Int->Option Int->Hp->VK->Prop) (te:TE) (tl th:TO):TE:=fun σ H Q=>te σ H fun x H1=>tl σ H1 fun l H2=>th σ H2 fun u H3=>r x l u H3 Q
theorem pe_slice {r:V->Option Int->Option Int->Hp->VK->Prop}(hr:SlR X r) (he:PE X e te) (hl:PO X lo tl) (hu:PO X hi th):PE X (.Subscript e (.Slice lo hi none p2) pos) (tSl r te tl th):=by
 intro pins s σ H Q I h
 refine Subscript_ (thn (he pins s σ H _ I h) fun v s1 ⟨x,H1,I1,r1,q1⟩=>?_)
 refine wpAny_Slice (thn (hl pins s1 σ H1 _ I1 q1) fun vl s2 ⟨l,H2,I2,pl,q2⟩=>thn (hu pins s2 σ H2 _ I2 q2) fun vu s3 ⟨u,H3,I3,pu,q3⟩=>?_)
 rw [evalPart_none]
 refine wpAny_pure ?_
 have I4:Inv X pins σ H3 { s3 with heap:=s3.heap.push { cls:=.type "slice",data:=.fields #[vl,vu,.none] } }:=I3.kept (t':=s3.toks) fun b ob q=>Heap.get?_push_of_some _ q
 obtain ⟨T,id,hT,ht,hg⟩:=hr pins { s3 with heap:=s3.heap.push { cls:=.type "slice",data:=.fields #[vl,vu,.none] } } σ H3 x v vl vu l u s3.heap.objs.size Q I4 r1 (Heap.IsSliceOf.new ..) pl pu q3
 show wpAny (model X.prog X.w) X.A (subscriptTail e (.Slice lo hi none p2) v (.ref s3.heap.objs.size)) (EP X pins σ Q) X.xe { s3 with heap:=s3.heap.push { cls:=.type "slice",data:=.fields #[vl,vu,.none] } }
 exact tail_any (ops:=[.ref s3.heap.objs.size,v]) ht hT hg (by with_unfolding_all rfl)
def cutV (xs:List V) (lo hi:Option Int):List V:=(xs.drop (HT.sIx xs.length 0 lo)).take (HT.sIx xs.length xs.length hi - HT.sIx xs.length 0 lo)
theorem cutV_length (xs:List V) (lo hi:Option Int):(cutV xs lo hi).length<=xs.length:=by
 unfold cutV
 rw [List.length_take,List.length_drop]
 omega
def rCatT (K:PySem.W.Frag):R2:=fun x y H Q=>∃ a b xs ys,x=.ref a/\y=.ref b/\SqT K H a xs/\SqT K H b ys/\xs≠[]/\xs.length + ys.length<=sizeLine /\
 (ys=[]->Q (.ref a) H)/\(ys≠[]->∀ p,H p=none->Q (.ref p) (upd H p (.tup (xs ++ ys))))
theorem Vals.nil_iff {xs:List V}{us:List Value}(r:Vals xs us):us=[]↔xs=[]:=by
 cases r with
 | nil=>simp
 | cons _ _=>simp
theorem op_catT:OpR X (binaryOp .Add) (rCatT X.K):=by
 intro pins s σ H x y v u Q I rx ry h
 obtain ⟨a,b,xs,ys,rfl,rfl,ha,hb,hx,hz,q1,q2⟩:=h
 cases rx
 cases ry
 obtain ⟨its,r1,p1,_⟩:=I.tuple ha
 obtain ⟨its2,r2,p2,_⟩:=I.tuple hb
 refine HT.cat_tup p1 p2 (fun z=>hx (r1.nil_iff.mp z)) (fun z=>⟨.ref a,H,I,rfl,q1 (r2.nil_iff.mp z)⟩) (fun z=>?_) (by rw [<- r1.length,<- r2.length]; exact hz)
 refine ⟨.ref s.heap.objs.size,_,I.laid (t':=s.toks) (o:=.tup (xs ++ ys)) (fun b ob q=>Heap.get?_push_of_some _ q) (Nat.le_refl _) ?_,rfl,q2 (fun w=>z (r2.nil_iff.mpr w)) _ (I.hok.fresh (Nat.le_refl _))⟩
 exact ⟨by rw [List.length_append]; exact hz,_,r1.append r2,IsTup.new _ _⟩
end
end L2
namespace L2
open PySem PySem.Spec PyProof.Rows
def ixN (n:Nat) (i:Int):Option Nat:=if 0<=i then (if i < n then some i.toNat else none) else if -(n:Int)<=i then some (i + n).toNat else none
def atI {α:Type}(xs:List α) (i:Int):Option α:=(ixN xs.length i).bind fun j=>xs[j]?
theorem ixN_seq {n:Nat}{i:Int}{j:Nat}(h:ixN n i=some j):seqIndex? i n=some j/\j < n /\ -(n:Int)<=i/\i < n:=by
 unfold ixN at h
 by_cases h0:0<=i
 ·rw [if_pos h0] at h
  by_cases h1:i < n
  ·rw [if_pos h1] at h
   have e:i.toNat=j:=Option.some.inj h
   exact ⟨by rw [seqIndex_of h0 h1,e],by omega,by omega,h1⟩
  ·rw [if_neg h1] at h; cases h
 ·rw [if_neg h0] at h
  by_cases h1 : -(n:Int)<=i
  ·rw [if_pos h1] at h
   have e:(i + n).toNat=j:=Option.some.inj h
   exact ⟨by rw [seqIndex_neg (by omega) h1,e],by omega,h1,by omega⟩
  ·rw [if_neg h1] at h; cases h
theorem atI_get {α:Type}{xs:List α}{i:Int}{v:α}(h:atI xs i=some v):∃ j,seqIndex? i xs.length=some j/\xs[j]? = some v/\j < xs.length /\ -(xs.length:Int)<=i/\i < xs.length:=by
 unfold atI at h
 cases e:ixN xs.length i with
 | none=>rw [e] at h; cases h
 | some j =>
  rw [e] at h
  obtain ⟨h1,h2,h3,h4⟩:=ixN_seq e
  exact ⟨j,h1,h,h2,h3,h4⟩
theorem atI_nat {α:Type}{xs:List α}{j:Nat}{v:α}(h:xs[j]? = some v):atI xs (j:Int)=some v:=by
 have hj:j < xs.length:=(List.getElem?_eq_some_iff.mp h).1
 have e:ixN xs.length (j:Int)=some j:=by
  unfold ixN
  rw [if_pos (by omega),if_pos (by omega)]; simp
 unfold atI; rw [e]; exact h
def PlainIx (b:Expr):Prop:=∀ o i,subscripted b false o i=operate [o,i] (getItem o i)
def IxR (X:Cx) (r:R2):Prop :=
 ∀(value slice:Expr) (pins:List (Addr×Obj)) (s:Shared) (σ:St) (H:Hp) (x y:V) (v u:Value) (Q:VK),Inv X pins σ H s->RelV x v->RelV y u->r x y H Q ->
  subscripted slice false v u=operate [v,u] (getItem v u)->wpAny (model X.prog X.w) X.A (subscriptTail value slice v u) (EP X pins σ Q) X.xe s
def MtR (X:Cx) (id:String) (r:V->List V->Hp->VK->Prop):Prop :=
 ∀(pins:List (Addr×Obj)) (s:Shared) (σ:St) (H:Hp) (x:V) (xs:List V) (v:Value) (us:List Value) (Q:VK),Inv X pins σ H s->RelV x v->Vals xs us->r x xs H Q ->
  wpAny (model X.prog X.w) X.A (call (.builtin id) (v :: us)) (EP X pins σ Q) X.xe s
section
variable {X:Cx}{a b:Expr}{ta tb:TE}{pos:Pos}
theorem IxR.or {r r':R2}(h:IxR X r) (h':IxR X r'):IxR X (fun x y H Q=>r x y H Q∨r' x y H Q):=by
 intro value slice pins s σ H x y v u Q I rx ry q hs
 rcases q with q | q
 ·exact h value slice pins s σ H x y v u Q I rx ry q hs
 ·exact h' value slice pins s σ H x y v u Q I rx ry q hs
theorem MtR.or {id:String}{r r':V->List V->Hp->VK->Prop}(h:MtR X id r) (h':MtR X id r'):MtR X id (fun x xs H Q=>r x xs H Q∨r' x xs H Q):=by
 intro pins s σ H x xs v us Q I rx rs q
 rcases q with q | q
 ·exact h pins s σ H x xs v us Q I rx rs q
 ·exact h' pins s σ H x xs v us Q I rx rs q
theorem pe_ix {r:R2}(hr:IxR X r) (ha:PE X a ta) (hb:PE X b tb) (hs:PlainIx b):PE X (.Subscript a b pos) (tOp r ta tb):=by
 intro pins s σ H Q I h
 exact Subscript_ (binT ha hb I h fun v u s2 x y H2 I2 rx ry q=>hr a b pins s2 σ H2 x y v u Q I2 rx ry q (hs _ _))
def rIxL (K:PySem.W.Frag):R2:=fun x y H Q=>∃ p xs i v,x=.ref p/\y=.int i/\SqL K H p xs/\atI xs i=some v/\Q v H
def rIxT (K:PySem.W.Frag):R2:=fun x y H Q=>∃ p xs i v,x=.ref p/\y=.int i/\SqT K H p xs/\atI xs i=some v/\Q v H
def rIxS:R2:=fun x y H Q=>∃ z i c,x=.str z/\y=.int i/\z.length<=sizeLine/\atI z.cps.toList i=some c/\Q (.str ⟨#[c]⟩) H
theorem ix_list:IxR X (rIxL X.K):=by
 intro value slice pins s σ H x y v u Q I rx ry h hs
 obtain ⟨p,xs,i,z,rfl,rfl,hq,he,q⟩:=h
 cases rx
 obtain ⟨t,rfl⟩:=ry
 obtain ⟨its,r,pl,hz⟩:=I.list hq
 obtain ⟨j,h1,h2,h3,h4,h5⟩:=atI_get he
 obtain ⟨w,ew,rw'⟩:=r.get h2
 have hl:=r.length
 have hn:=line63
 have fin:EP X pins σ Q w s:=⟨z,H,I,rw',q⟩
 by_cases h0:0<=i
 ·have hj:i.toNat=j:=by
   rw [seqIndex_of h0 h5] at h1
   exact Option.some.inj h1
  exact item_listR pl.isList h0 (by omega) (by rw [hj]; simpa using ew) fin hs
 ·have hj:(i + (its.toArray.size:Int)).toNat=j:=by
   rw [seqIndex_neg (by omega) h4] at h1
   rw [List.size_toArray,<- hl]
   exact Option.some.inj h1
  exact subscriptTail_builtinR (x:=w) pl.isList.typeIs slot_list_getitem.lookup
   (wpAny_getItem_list_neg (Q:=fun r s'=>r=w/\EP X pins σ Q r s') pl.isList (by omega) (by rw [List.size_toArray] <;> omega) (by omega) (by rw [hj]; simpa using ew) ⟨rfl,fin⟩) hs
theorem ix_tup:IxR X (rIxT X.K):=by
 intro value slice pins s σ H x y v u Q I rx ry h hs
 obtain ⟨p,xs,i,z,rfl,rfl,hq,he,q⟩:=h
 cases rx
 obtain ⟨t,rfl⟩:=ry
 obtain ⟨its,r,pl,hz⟩:=I.tuple hq
 obtain ⟨j,h1,h2,h3,h4,h5⟩:=atI_get he
 obtain ⟨w,ew,rw'⟩:=r.get h2
 have hl:=r.length
 have hn:=line63
 have fin:EP X pins σ Q w s:=⟨z,H,I,rw',q⟩
 exact subscriptTail_builtinR (x:=w) pl.typeIs slot_tuple_getitem.lookup
  (getItem_tuple (j:=j) (Q:=fun r s'=>r=w/\EP X pins σ Q r s') pl (by omega) (by omega) (by rw [List.size_toArray,<- hl]; exact h1) (by simpa using ew) ⟨rfl,fin⟩) hs
theorem ix_str:IxR X rIxS:=by
 intro value slice pins s σ H x y v u Q I rx ry h hs
 obtain ⟨z,i,c,rfl,rfl,hz,he,q⟩:=h
 obtain ⟨t,rfl⟩:=rx
 obtain ⟨t',rfl⟩:=ry
 obtain ⟨j,h1,h2,h3,h4,h5⟩:=atI_get he
 have hl:z.cps.toList.length=z.length:=by simp [Str.length]
 rw [hl] at h1 h4 h5
 have hn:=line63
 exact tail_any (typeIs_str s z t) slot_str_getitem.lookup (getItem_str (c:=c) (by
  have e1:decide (i < -(2 ^ 63:Int))=false:=decide_eq_false (by omega)
  have e2:decide (i ≥ 2 ^ 63)=false:=decide_eq_false (by omega)
  rw [e1,e2,Bool.or_false]) (by rw [h1]; simpa using h2) ⟨.str ⟨#[c]⟩,H,I.tok _,⟨_,rfl⟩,q⟩) hs
def rIx (K:PySem.W.Frag):R2:=fun x y H Q=>rIxL K x y H Q∨rIxT K x y H Q∨rIxS x y H Q
theorem ix_seq:IxR X (rIx X.K):=ix_list.or (ix_tup.or ix_str)
theorem Inv.lst {pins:List (Addr×Obj)}{σ:St}{H:Hp}{s:Shared}{p:Addr}{xs:List V}(I:Inv X pins σ H s) (h:H p=some (.lst xs)) :
  ∃(its:List Value) (n:Nat),Vals xs its/\s.heap.get? p=some { cls:=.type "list",data:=.seq its.toArray n }/\xs.length<=sizeLine:=by
 obtain ⟨z,its,n,r,e⟩:=I.hok p _ h
 exact ⟨its,n,r,e,z⟩
theorem slice_bounds (lo hi:Option Int) (n:Nat):(sliceBounds lo hi none n).1=((HT.sIx n 0 lo:Nat):Int)/\(sliceBounds lo hi none n).2.1=((HT.sIx n n hi:Nat):Int)/\(sliceBounds lo hi none n).2.2=1:=by
 refine ⟨?_,?_,rfl⟩
 ·cases lo with
  | none=>simp [sliceBounds,HT.sIx]
  | some i =>
   simp only [sliceBounds,HT.sIx,Option.getD_none,show (1:Int) > 0 by decide,if_true]
   by_cases h:i < 0
   ·simp only [h,if_true] <;> omega
   ·simp only [h,if_false] <;> omega
 ·cases hi with
  | none=>simp [sliceBounds,HT.sIx]
  | some i =>
   simp only [sliceBounds,HT.sIx,Option.getD_none,show (1:Int) > 0 by decide,if_true]
   by_cases h:i < 0
   ·simp only [h,if_true] <;> omega
   ·simp only [h,if_false] <;> omega
theorem slicePick_cut (its:List Value) (lo hi:Option Int):slicePick its.toArray lo hi none=((its.drop (HT.sIx its.length 0 lo)).take (HT.sIx its.length its.length hi - HT.sIx its.length 0 lo)).toArray:=by
 obtain ⟨h1,h2,h3⟩:=slice_bounds lo hi its.toArray.size
 unfold slicePick
 rw [h1,h2,h3]
 simp only [sliceRange_one,pick_run,List.size_toArray] <;> rfl
def rSlL (K:PySem.W.Frag):V->Option Int->Option Int->Hp->VK->Prop:=fun x lo hi H Q=>∃ a xs,x=.ref a/\SqL K H a xs/\∀ p,H p=none->Q (.ref p) (upd H p (.lst (cutV xs lo hi)))
theorem sl_list:SlR X (rSlL X.K):=by
 intro pins s σ H x v vl vu lo hi sl Q I rx hs pl pu h
 obtain ⟨a,xs,rfl,hx,q⟩:=h
 cases rx
 obtain ⟨its,r,ht,hz⟩:=I.list hx
 have hlen:=r.length
 refine ⟨"list",_,slot_list_getitem.lookup,ht.isList.typeIs,?_⟩
 refine wpAny_getItem_list_slice ht.isList hs pl pu .none (by simp) ?_ (by rw [List.size_toArray] <;> omega)
 rw [slicePick_cut,<- hlen]
 refine ⟨.ref s.heap.objs.size,_,I.laid (t':=s.toks) (o:=.lst (cutV xs lo hi)) (fun b ob q=>Heap.get?_push_of_some _ q) (Nat.le_refl _) ?_,rfl,q _ (I.hok.fresh (Nat.le_refl _))⟩
 exact ⟨Nat.le_trans (cutV_length xs lo hi) hz,_,0,(r.drop (HT.sIx xs.length 0 lo)).take (HT.sIx xs.length xs.length hi - HT.sIx xs.length 0 lo),Heap.get?_push_size _ rfl⟩
def flatV:V->Bool
 | .non=>true
 | .bl _=>true
 | .int _=>true
 | .str _=>true
 | _=>false
def eqV:V->V->Bool
 | .non,.non=>true
 | .bl a,.bl b=>a == b
 | .bl a,.int b=>(if a then 1 else 0) == b
 | .int a,.bl b=>a == (if b then 1 else 0)
 | .int a,.int b=>a == b
 | .str a,.str b=>a == b
 | _,_=>false
theorem eqAt_V {A:Around}{s:Shared}{y x:V}{u v:Value}(ry:RelV y u) (rx:RelV x v) (fy:flatV y=true) (fx:flatV x=true):SeqAt.EqAt A s u v (eqV y x):=by
 cases y with
 | non =>
  cases ry
  cases x with
  | non=>cases rx; exact SeqAt.EqAt.same _
  | bl b=>cases rx; exact SeqAt.EqAt.none_bool b
  | int b=>obtain ⟨t,rfl⟩:=rx; exact SeqAt.EqAt.none_int b t
  | str b=>obtain ⟨t,rfl⟩:=rx; exact SeqAt.EqAt.none_str b t
  | _=>exact absurd (show false=true from fx) Bool.false_ne_true
 | bl a =>
  cases ry
  cases x with
  | non=>cases rx; exact SeqAt.EqAt.bool_none a
  | bl b=>cases rx; exact SeqAt.EqAt.bool_bool a b
  | int b=>obtain ⟨t,rfl⟩:=rx; exact SeqAt.EqAt.bool_int a b t
  | str b=>obtain ⟨t,rfl⟩:=rx; exact SeqAt.EqAt.bool_str a b t
  | _=>exact absurd (show false=true from fx) Bool.false_ne_true
 | int a =>
  obtain ⟨t',rfl⟩:=ry
  cases x with
  | non=>cases rx; exact SeqAt.EqAt.int_none a t'
  | bl b=>cases rx; exact SeqAt.EqAt.int_bool a t' b
  | int b=>obtain ⟨t,rfl⟩:=rx; exact SeqAt.EqAt.int_int a t' b t
  | str b=>obtain ⟨t,rfl⟩:=rx; exact SeqAt.EqAt.int_str a t' b t
  | _=>exact absurd (show false=true from fx) Bool.false_ne_true
 | str a =>
  obtain ⟨t',rfl⟩:=ry
  cases x with
  | non=>cases rx; exact SeqAt.EqAt.str_none a t'
  | bl b=>cases rx; exact SeqAt.EqAt.str_bool a t' b
  | int b=>obtain ⟨t,rfl⟩:=rx; exact SeqAt.EqAt.str_int a t' b t
  | str b=>obtain ⟨t,rfl⟩:=rx; exact SeqAt.EqAt.str_str a t' b t
  | _=>exact absurd (show false=true from fx) Bool.false_ne_true
 | _=>exact absurd (show false=true from fy) Bool.false_ne_true
def eqU (x:V) (u:Value):Bool:=match u with
 | .none=>eqV .non x
 | .bool b=>eqV (.bl b) x
 | .int i _=>eqV (.int i) x
 | .str z _=>eqV (.str z) x
 | _=>false
theorem eqU_of {x y:V}{u:Value}(r:RelV y u) (f:flatV y=true):eqU x u=eqV y x:=by
 cases y with
 | non=>cases r; rfl
 | bl b=>cases r; rfl
 | int i=>obtain ⟨t,rfl⟩:=r; rfl
 | str z=>obtain ⟨t,rfl⟩:=r; rfl
 | _=>exact absurd (show false=true from f) Bool.false_ne_true
theorem any_eqU {x:V}:∀{xs:List V}{us:List Value},Vals xs us->xs.all flatV=true->us.any (eqU x)=xs.any fun y=>eqV y x
 | _,_,.nil,_=>rfl
 | y :: xs,u :: us,.cons r t,f=>by
  rw [List.all_cons,Bool.and_eq_true] at f
  rw [List.any_cons,List.any_cons,eqU_of r f.1,any_eqU t f.2]
theorem mem_eqAt {A:Around}{s:Shared}{x:V}{v:Value}(rx:RelV x v) (fx:flatV x=true):∀{xs:List V}{us:List Value},Vals xs us->xs.all flatV=true->∀ u∈us,SeqAt.EqAt A s u v (eqU x u)
 | _,_,.nil,_=>fun u hu=>by cases hu
 | y :: xs,u :: us,.cons r t,f=>fun u' hu=>by
  rw [List.all_cons,Bool.and_eq_true] at f
  rcases List.mem_cons.mp hu with rfl | hu
  ·rw [eqU_of r f.1]; exact eqAt_V r rx f.1 fx
  ·exact mem_eqAt rx fx t f.2 u' hu
def inV (x:V) (xs:List V):Bool:=xs.any fun y=>eqV y x
def rIn (K:PySem.W.Frag) (neg:Bool):R2:=fun x y H Q=>∃ p xs,y=.ref p/\(SqL K H p xs∨SqT K H p xs)/\flatV x=true/\xs.all flatV=true/\Q (.bl (if neg then !inV x xs else inV x xs)) H
theorem op_in_seq:OpR X (compareOp .In) (rIn X.K false):=by
 intro pins s σ H x y v u Q I rx ry h
 obtain ⟨p,xs,rfl,hq,fx,fs,q⟩:=h
 cases ry
 rcases hq with hq | hq
 ·obtain ⟨its,r,pl,hz⟩:=I.list hq
  refine SeqAt.in_listAt (eqU x) pl.isList (fun w hw=>mem_eqAt rx fx r fs w (by simpa using hw)) ⟨.bl _,H,I,rfl,?_⟩
  rw [show its.toArray.any (eqU x)=its.any (eqU x) by simp,any_eqU r fs]
  exact q
 ·obtain ⟨its,r,pl,hz⟩:=I.tuple hq
  refine SeqAt.in_tupleAt (eqU x) pl (fun w hw=>mem_eqAt rx fx r fs w (by simpa using hw)) ⟨.bl _,H,I,rfl,?_⟩
  rw [show its.toArray.any (eqU x)=its.any (eqU x) by simp,any_eqU r fs]
  exact q
theorem op_notIn_seq:OpR X (compareOp .NotIn) (rIn X.K true):=by
 intro pins s σ H x y v u Q I rx ry h
 obtain ⟨p,xs,rfl,hq,fx,fs,q⟩:=h
 cases ry
 rcases hq with hq | hq
 ·obtain ⟨its,r,pl,hz⟩:=I.list hq
  refine SeqAt.notIn_listAt (eqU x) pl.isList (fun w hw=>mem_eqAt rx fx r fs w (by simpa using hw)) ⟨.bl _,H,I,rfl,?_⟩
  rw [show its.toArray.any (eqU x)=its.any (eqU x) by simp,any_eqU r fs]
  exact q
 ·obtain ⟨its,r,pl,hz⟩:=I.tuple hq
  refine SeqAt.notIn_tupleAt (eqU x) pl (fun w hw=>mem_eqAt rx fx r fs w (by simpa using hw)) ⟨.bl _,H,I,rfl,?_⟩
  rw [show its.toArray.any (eqU x)=its.any (eqU x) by simp,any_eqU r fs]
  exact q
theorem call_len_seq:CallR X (.builtin "len") (fun xs H Q=>∃ p ys,xs=[.ref p]/\(SqL X.K H p ys∨SqT X.K H p ys)/\Q (.int ys.length) H):=by
 intro pins s σ H xs us Q I r h
 obtain ⟨p,ys,rfl,hq,q⟩:=h
 obtain ⟨u,rfl,rx⟩:=vals1 r
 cases rx
 have hn:=line63
 rcases hq with hq | hq
 ·obtain ⟨its,r',pl,hz⟩:=I.list hq
  have hlen:=r'.length
  exact Calls.call_len_list pl.isList (by simp only [List.size_toArray] <;> omega) ⟨.int ys.length,H,I.tok _,⟨s.toks + 1,by rw [List.size_toArray,hlen]⟩,q⟩
 ·obtain ⟨its,r',pl,hz⟩:=I.tuple hq
  have hlen:=r'.length
  exact len_tuple pl (by simp only [List.size_toArray] <;> omega) ⟨.int ys.length,H,I.tok _,⟨s.toks + 1,by rw [List.size_toArray,hlen]⟩,q⟩
theorem call_len_str:CallR X (.builtin "len") (fun xs H Q=>∃ z,xs=[.str z]/\z.length<=sizeLine/\Q (.int z.length) H):=by
 intro pins s σ H xs us Q I r h
 obtain ⟨z,rfl,hz,q⟩:=h
 obtain ⟨u,rfl,t,rfl⟩:=vals1 r
 have hn:=line63
 exact len_str (by omega) ⟨.int z.length,H,I.tok _,⟨_,rfl⟩,q⟩
theorem CallR.or {f:Value}{r r':List V->Hp->VK->Prop}(h:CallR X f r) (h':CallR X f r'):CallR X f (fun xs H Q=>r xs H Q∨r' xs H Q):=by
 intro pins s σ H xs us Q I rs q
 rcases q with q | q
 ·exact h pins s σ H xs us Q I rs q
 ·exact h' pins s σ H xs us Q I rs q
theorem call_list_of:CallR X (.type "list") (fun xs H Q=>∃ p ys,xs=[.ref p]/\(SqL X.K H p ys∨SqT X.K H p ys)/\∀ l,H l=none->Q (.ref l) (upd H l (.lst ys))):=by
 intro pins s σ H xs us Q I r h
 obtain ⟨p,ys,rfl,hq,q⟩:=h
 obtain ⟨u,rfl,rx⟩:=vals1 r
 cases rx
 have fin:∀(its:List Value),Vals ys its->ys.length<=sizeLine->∀(h':Heap) (c':Nat),(∀ b o',s.heap.get? b=some o'->h'.get? b=some o') ->
   h'.get? s.heap.objs.size=some { cls:=.type "list",dict:=none,data:=.seq its.toArray c',slots:=#[] }->EP X pins σ Q (.ref s.heap.objs.size) { s with heap:=h' }:=fun its r' hz h' c' kp e =>
  ⟨.ref s.heap.objs.size,_,I.laid (t':=s.toks) kp (Nat.le_refl _) (show ObjOk X.prog X.w _ h' _ (.lst ys) from ⟨hz,its,c',r',e⟩),rfl,q _ (I.hok.fresh (Nat.le_refl _))⟩
 rcases hq with hq | hq
 ·obtain ⟨its,r',pl,hz⟩:=I.list hq
  have hlen:=r'.length
  obtain ⟨o,ho,hc,n,hd⟩:=pl.isList
  exact call_list_seq p (.inl rfl) ho hc hd (fun h' c' kp e=>fin its r' hz h' c' kp e) (by simp only [List.size_toArray] <;> omega)
 ·obtain ⟨its,r',pl,hz⟩:=I.tuple hq
  have hlen:=r'.length
  obtain ⟨o,ho,hc,n,hd⟩:=pl
  exact call_list_seq p (.inr rfl) ho hc hd (fun h' c' kp e=>fin its r' hz h' c' kp e) (by simp only [List.size_toArray] <;> omega)
def tyV (K:PySem.W.Frag) (T:String) (x:V) (H:Hp):Prop:=match x with
 | .str _=>T = "str"
 | .int _=>T = "int"
 | .ref p=>(T = "list" /\ ∃ xs,SqL K H p xs)∨(T = "tuple" /\ ∃ o,K.lookup p=some o/\o.cls=.type "tuple" /\ o.dict=none) ∨
   (T = "dict" /\ ((∃ kvs,H p=some (.dK kvs))∨∃ kvs,H p=some (.dT kvs)))∨(T = "set" /\ ∃ S n,H p=some (.set S n))
 | _=>False
theorem tyV_is {pins:List (Addr×Obj)}{σ:St}{H:Hp}{s:Shared}{T:String}{x:V}{v:Value}(I:Inv X pins σ H s) (r:RelV x v) (ty:tyV X.K T x H) :
  s.TypeIs v T/\∀ a,v=.ref a->∃ ob,s.heap.get? a=some ob/\ob.dict=none:=by
 cases x with
 | str z =>
  obtain ⟨t,rfl⟩:=r
  cases (show T = "str" from ty)
  exact ⟨typeIs_str s z t,fun _ e=>nomatch e⟩
 | int i =>
  obtain ⟨t,rfl⟩:=r
  cases (show T = "int" from ty)
  exact ⟨typeIs_int s i t,fun _ e=>nomatch e⟩
 | ref p =>
  cases r
  rcases ty with ⟨rfl,xs,hq⟩ | ⟨rfl,o,hk,hc,hd⟩ | ⟨rfl,hk⟩ | ⟨rfl,S,n,hk⟩
  ·obtain ⟨its,_,pl,_⟩:=I.list hq
   refine ⟨pl.isList.typeIs,fun a e=>?_⟩
   cases e
   obtain ⟨o,n,e,c,hd,_⟩:=pl
   exact ⟨o,e,hd⟩
  ·refine ⟨⟨o,I.kIn p o hk,hc⟩,fun a e=>?_⟩
   cases e
   exact ⟨o,I.kIn _ o hk,hd⟩
  ·have z:∃ o,s.heap.get? p=some o/\o.ExactDict:=by
    rcases hk with ⟨kvs,hk⟩ | ⟨kvs,hk⟩
    ·obtain ⟨_,_,_,_,o,_,_,e,ex,_⟩:=I.hok p _ hk
     exact ⟨o,e,ex⟩
    ·obtain ⟨_,_,_,_,o,_,_,e,ex,_⟩:=I.hok p _ hk
     exact ⟨o,e,ex⟩
   obtain ⟨o,e,ex⟩:=z
   refine ⟨⟨o,e,ex.1⟩,fun a e2=>?_⟩
   cases e2
   exact ⟨o,e,ex.2.1⟩
  ·obtain ⟨o,_,_,_,e,ex,_⟩:=I.hok p _ hk
   refine ⟨⟨o,e,ex.1⟩,fun a e2=>?_⟩
   cases e2
   exact ⟨o,e,ex.2.1⟩
 | _=>exact False.elim ty
def tBM (K:PySem.W.Frag) (T:String) (r:V->List V->Hp->VK->Prop) (to:TE) (t:TA):TE:=fun σ H Q=>to σ H fun x H1=>tyV K T x H1/\t σ H1 fun xs H2=>r x xs H2 Q
variable {o e:Expr}{es:List Expr}{to:TE}{t:TA}{name:Str}{apos cpos:Pos}{T id:String}{r:V->List V->Hp->VK->Prop}
theorem pe_bm (pa:PlainAttrs T) (slot:Slot T name id) (hty:typeOf (.builtin id)=pure (.type "method_descriptor")) (hm:MtR X id r) (ho:PE X o to) (ha:PA X (e :: es) t)
  (hbase:attributeBase o name X.env (eval o X.env)=eval o X.env:=by rfl)
  (hfew:((backTo cpos (starEach (e :: es) X.env)).all (fun x=>!x.1) && (backToKw cpos (keywordEach [] X.env)).all (fun x=>x.1.isSome)
   && decide ((e :: es).length + ([]:List Keyword).length + (if ([]:List Keyword).isEmpty then 0 else 1) < 30))=true:=by rfl)
  (hline:(apos.endLine == cpos.line)=true:=by rfl) (hs:starEach (e :: es) X.env=(false,eval e X.env) :: starEach es X.env:=by rfl) (hplain:(backTo cpos (starEach es X.env)).any (·.1)=false:=by rfl) :
  PE X (.Call (.Attribute o name apos) (e :: es) [] cpos) (tBM X.K T r to t):=by
 intro pins s σ H Q I h
 refine wpAny_Call_method_late hbase hfew hline rfl (thn (ho pins s σ H _ I h) fun v s1 ⟨x,H1,I1,r1,ty,q1⟩=>?_)
 obtain ⟨h1,h2⟩:=tyV_is I1 r1 ty
 refine ⟨T,id,pa,slot,hty,h1,h2,?_⟩
 have hA:=ha cpos pins s1 σ H1 _ I1 q1
 rw [hs] at hA ⊢
 refine Calls.callWith_builtin (by show (false || (backTo cpos (starEach es X.env)).any (·.1))=false; rw [hplain] <;> rfl) (Calls.evalArgs_plain ?_)
 exact thn hA fun us s2 ⟨vs,H2,I2,r2,q2⟩=>hm pins s2 σ H2 x vs v us Q I2 r1 r2 q2
end
end L2
namespace L2
open PySem PySem.Spec PyProof.Rows
def MtM (X:Cx) (id:String) (r:V->List V->Hp->VK->Prop):Prop :=
 ∀(pins:List (Addr×Obj)) (s:Shared) (σ:St) (H:Hp) (x:V) (xs:List V) (v:Value) (us:List Value) (Q:VK),Inv X pins σ H s->RelV x v->Vals xs us->r x xs H Q ->
  wpAny (model X.prog X.w) X.A (call (.builtin id) (v :: us)) (EP X pins σ Q) X.xe s
theorem Vals.one:∀{x:V}{us:List Value},Vals [x] us->∃ u,us=[u]/\RelV x u
 | _,_,.cons r .nil=>⟨_,rfl,r⟩
theorem Vals.two:∀{x y:V}{us:List Value},Vals [x,y] us->∃ u v,us=[u,v]/\RelV x u/\RelV y v
 | _,_,_,.cons r (.cons q .nil)=>⟨_,_,rfl,r,q⟩
theorem Vals.zero:∀{us:List Value},Vals [] us->us=[]
 | _,.nil=>rfl
theorem Vals.eraseIdx:∀{xs:List V}{us:List Value}(i:Nat),Vals xs us->Vals (xs.eraseIdx i) (us.eraseIdx i)
 | _,_,_,.nil=>.nil
 | _,_,0,.cons _ t=>t
 | _,_,i + 1,.cons r t=>.cons r (Vals.eraseIdx i t)
theorem len_erase {α:Type}:∀(l:List α) (i:Nat),(l.eraseIdx i).length<=l.length
 | [],_=>Nat.le_refl _
 | _ :: _,0=>Nat.le_succ _
 | _ :: r,i + 1=>Nat.succ_le_succ (len_erase r i)
section
variable {X:Cx}{pins:List (Addr×Obj)}{σ:St}{H:Hp}{s:Shared}{l b:Addr}{xs ys zs:List V}
theorem Inv.lset {its its':List Value}{n:Nat}{f:Array Value->Array Value}{t':Nat}(I:Inv X pins σ H s) (hH:H l=some (.lst xs))
  (e:s.heap.get? l=some { cls:=.type "list",data:=.seq its.toArray n }) (hf:f its.toArray=its'.toArray) (hv:Vals ys its') (hz:ys.length<=sizeLine) :
  Inv X pins σ (upd H l (.lst ys)) { s with heap:=s.heap.update l (Obj.mapSeq f),toks:=t' }:=by
 have q:=PySem.IsL.update e f
 rw [hf] at q
 refine I.write (x:=l) (e:=l) (by rw [hH]; exact trivial) (.inl rfl) (fun b' u hb hu=>(Heap.get?_update_other s.heap (Obj.mapSeq f) (Ne.symm hb)).trans hu) ⟨_,q⟩ ?_
 exact ⟨hz,its',_,hv,q⟩
theorem Inv.lnew {its:List Value}{t':Nat}(I:Inv X pins σ H s) (hv:Vals ys its) (hz:ys.length<=sizeLine) :
  Inv X pins σ (upd H s.heap.objs.size (.lst ys)) { s with heap:=s.heap.push { cls:=.type "list",data:=.seq its.toArray },toks:=t' } :=
 I.laid (fun _ _ q=>Heap.get?_push_of_some _ q) (Nat.le_refl _) ⟨hz,its,0,hv,Heap.get?_push_size _ rfl⟩
theorem Inv.fresh (I:Inv X pins σ H s):H s.heap.objs.size=none:=I.hok.fresh (Nat.le_refl _)
theorem Inv.lstM (I:Inv X pins σ H s) (hH:H l=some (.lst xs)):xs.length<=sizeLine/\∃(its:List Value) (n:Nat),Vals xs its/\xs.length=its.length/\s.heap.get? l=some { cls:=.type "list",data:=.seq its.toArray n }:=by
 obtain ⟨z,its,n,r,e⟩:=I.hok l _ hH
 exact ⟨z,its,n,r,r.length,e⟩
end
section
variable {X:Cx}
def rAppend:V->List V->Hp->VK->Prop:=fun x vs H Q=>∃ l xs y,x=.ref l/\vs=[y]/\H l=some (.lst xs)/\xs.length < sizeLine/\Q .non (upd H l (.lst (xs ++ [y])))
theorem mt_append:MtM X "list.append" rAppend:=by
 intro pins s σ H x vs v us Q I rx rv h
 obtain ⟨l,xs,y,rfl,rfl,hH,hz,q⟩:=h
 cases rx
 obtain ⟨u,rfl,ru⟩:=rv.one
 obtain ⟨z,its,n,r,hl,e⟩:=I.lstM hH
 refine call_meets F.slot_list_append ⟨_,e,rfl⟩ F.entry_list_append (F.args_list_append_2 _ _) (PySem.list_append l its.toArray n u (by rw [List.size_toArray]; omega)) ⟨e,?_⟩
 refine ⟨.non,_,I.lset (its':=its ++ [u]) hH e (by simp) (r.append (.cons ru .nil)) ?_,rfl,q⟩
 rw [List.length_append,List.length_singleton]
 omega
def rPopAt:V->List V->Hp->VK->Prop:=fun x vs H Q=>∃ l xs i k y,x=.ref l/\vs=[.int i]/\H l=some (.lst xs) /\ -(2 ^ 63)<=i/\i < 2 ^ 63/\seqIndex? i xs.length=some k/\xs[k]? = some y/\Q y (upd H l (.lst (xs.eraseIdx k)))
theorem mt_popAt:MtM X "list.pop" rPopAt:=by
 intro pins s σ H x vs v us Q I rx rv h
 obtain ⟨l,xs,i,k,y,rfl,rfl,hH,h1,h2,hk,hy,q⟩:=h
 cases rx
 obtain ⟨u,rfl,ru⟩:=rv.one
 obtain ⟨t,rfl⟩:=ru
 obtain ⟨z,its,n,r,hl,e⟩:=I.lstM hH
 obtain ⟨w,hw,rw'⟩:=r.get hy
 refine call_meets F.slot_list_pop ⟨_,e,rfl⟩ F.entry_list_pop (F.args_list_pop_2 _ _)
  (MeetsSeq.list_pop_at l its.toArray n i t k w (fitsIndex_both h1 h2) (by rw [List.size_toArray,<- hl]; exact hk) (by rw [<- Array.getElem?_toList]; exact hw) (by rw [List.size_toArray]; omega)) ⟨e,?_⟩
 refine ⟨y,_,I.lset (its':=its.eraseIdx k) hH e ?_ (r.eraseIdx k) ?_,rw',q⟩
 ·show its.toArray.eraseIdxIfInBounds k=(its.eraseIdx k).toArray
  rw [List.eraseIdxIfInBounds_toArray]
 ·have:=len_erase xs k
  omega
def rCat:R2:=fun x y H Q=>∃ l b xs zs,x=.ref l/\y=.ref b/\H l=some (.lst xs)/\H b=some (.lst zs)/\xs.length + zs.length<=sizeLine/\∀ p,H p=none->Q (.ref p) (upd H p (.lst (xs ++ zs)))
theorem op_cat:OpR X (binaryOp .Add) rCat:=by
 intro pins s σ H x y v u Q I rx ry h
 obtain ⟨l,b,xs,zs,rfl,rfl,hH,hB,hz,q⟩:=h
 cases rx
 cases ry
 obtain ⟨z,its,n,r,hl,e⟩:=I.lstM hH
 obtain ⟨z2,its2,n2,r2,hl2,e2⟩:=I.lstM hB
 refine PySem.P.add_list e e2 ?_ (by rw [List.size_toArray,List.size_toArray]; omega)
 have ea:its.toArray ++ its2.toArray=(its ++ its2).toArray:=by simp
 rw [ea]
 exact ⟨.ref _,_,I.lnew (t':=s.toks) (r.append r2) (by rw [List.length_append]; omega),rfl,q _ I.fresh⟩
end
section
variable {prog:Program}{w:World}{A:Around}{E:Value->Shared->Prop}{s:Shared}
end
section
variable {X:Cx}
end
end L2
namespace L2
open PySem PySem.Spec PyProof.Rows
section
variable {κ:Type} [DecidableEq κ]
def valV (kvs:List (κ×V)) (k:κ):Option V:=(kvs.find? fun kv=>decide (kv.1=k)).map (·.2)
def putK (kvs:List (κ×V)) (k:κ) (v:V):List (κ×V) :=
 if (kvs.any fun kv=>decide (kv.1=k))=true then kvs.map (fun kv=>if kv.1=k then (kv.1,v) else kv) else kvs ++ [(k,v)]
def dropK (kvs:List (κ×V)) (k:κ):List (κ×V):=kvs.filter fun kv=>decide (kv.1≠k)
theorem valV_pos {p:κ×V}{r:List (κ×V)}{k:κ}(e:p.1=k):valV (p :: r) k=some p.2:=by simp [valV,List.find?_cons,e]
theorem valV_neg {p:κ×V}{r:List (κ×V)}{k:κ}(e:¬ p.1=k):valV (p :: r) k=valV r k:=by simp [valV,List.find?_cons,e]
theorem valV_any (k:κ):∀ kvs:List (κ×V),(kvs.any fun kv=>decide (kv.1=k))=(valV kvs k).isSome
 | []=>rfl
 | p :: r=>by
  rw [List.any_cons]
  by_cases e:p.1=k
  ·simp only [valV_pos e,decide_eq_true e,Bool.true_or,Option.isSome_some]
  ·rw [valV_neg e,decide_eq_false e,Bool.false_or]; exact valV_any k r
theorem valV_map (k j:κ) (y:V):∀ kvs:List (κ×V),valV (kvs.map fun kv=>if kv.1=k then (kv.1,y) else kv) j=(valV kvs j).map fun x=>if j=k then y else x
 | []=>rfl
 | p :: r=>by
  have ih:=valV_map k j y r
  rw [List.map_cons]
  by_cases h:p.1=k
  ·rw [if_pos h]
   by_cases e:p.1=j
   ·rw [valV_pos (p:=(p.1,y)) e,valV_pos e,Option.map_some,if_pos (e.symm.trans h)]
   ·rw [valV_neg (p:=(p.1,y)) e,valV_neg e,ih]
  ·rw [if_neg h]
   by_cases e:p.1=j
   ·rw [valV_pos (p:=p) e,valV_pos e,Option.map_some,if_neg (fun z=>h (e.trans z))]
   ·rw [valV_neg (p:=p) e,valV_neg e,ih]
theorem valV_snoc (k j:κ) (y:V):∀ kvs:List (κ×V),valV kvs k=none->valV (kvs ++ [(k,y)]) j=if j=k then some y else valV kvs j
 | [],_=>by
  by_cases e:k=j
  ·rw [if_pos e.symm]; exact valV_pos (p:=(k,y)) e
  ·rw [if_neg (fun z=>e z.symm)]; exact valV_neg (p:=(k,y)) e
 | p :: r,hn=>by
  rw [List.cons_append]
  have hk:¬ p.1=k:=fun z=>by rw [valV_pos z] at hn; cases hn
  rw [valV_neg hk] at hn
  have ih:=valV_snoc k j y r hn
  by_cases e:p.1=j
  ·rw [valV_pos e,valV_pos e,if_neg (fun z=>hk (e.trans z))]
  ·rw [valV_neg e,valV_neg e,ih]
theorem valV_put (kvs:List (κ×V)) (k j:κ) (y:V):valV (putK kvs k y) j=if j=k then some y else valV kvs j:=by
 unfold putK
 by_cases a:(kvs.any fun kv=>decide (kv.1=k))=true
 ·rw [if_pos a,valV_map]
  rw [valV_any] at a
  by_cases e:j=k
  ·obtain ⟨x,hx⟩:=Option.isSome_iff_exists.mp a
   rw [if_pos e,e,hx,Option.map_some,if_pos rfl]
  ·rw [if_neg e]
   cases valV kvs j with
   | none=>rfl
   | some x=>rw [Option.map_some,if_neg e]
 ·rw [if_neg a]
  refine valV_snoc k j y kvs ?_
  rw [valV_any] at a
  cases q:valV kvs k with
  | none=>rfl
  | some x=>rw [q] at a; exact (a rfl).elim
theorem length_putK (kvs:List (κ×V)) (k:κ) (v:V):(putK kvs k v).length<=kvs.length + 1:=by
 unfold putK
 split
 ·rw [List.length_map]; omega
 ·rw [List.length_append,List.length_cons,List.length_nil]; omega
theorem RelO.isSome_eq {o:Option V}{u:Option Value}(r:RelO o u):o.isSome=u.isSome:=by
 cases o with
 | none=>cases u with
  | none=>rfl
  | some _=>exact (show False from r).elim
 | some _=>cases u with
  | none=>exact (show False from r).elim
  | some _=>rfl
theorem RelO.getD {o:Option V}{u:Option Value}{d:V}{d':Value}(r:RelO o u) (rd:RelV d d'):RelV (o.getD d) (u.getD d'):=by
 cases o with
 | none=>cases u with
  | none=>exact rd
  | some _=>exact (show False from r).elim
 | some _=>cases u with
  | none=>exact (show False from r).elim
  | some _=>exact r
theorem KV.val {kvs:List (κ×V)}{vs:List (κ×Value)}(r:KV kvs vs) (k:κ):RelO (valV kvs k) (valueAt vs k):=by
 unfold KV at r
 induction r with
 | nil=>exact True.intro
 | @cons p q ps qs h t ih =>
  obtain ⟨h1,h2⟩:=h
  by_cases e:p.1=k
  ·have e':q.1=k:=h1.symm.trans e
   have b:valueAt (q :: qs) k=some q.2:=by simp [valueAt,List.find?_cons,e']
   rw [valV_pos e,b]; exact h2
  ·have e':¬ q.1=k:=fun z=>e (h1.trans z)
   have b:valueAt (q :: qs) k=valueAt qs k:=by simp [valueAt,List.find?_cons,e']
   rw [valV_neg e,b]; exact ih
theorem KV.any {kvs:List (κ×V)}{vs:List (κ×Value)}(r:KV kvs vs) (k:κ):(kvs.any fun kv=>decide (kv.1=k))=vs.any fun kv=>decide (kv.1=k):=by
 unfold KV at r
 induction r with
 | nil=>rfl
 | cons h t ih=>rw [List.any_cons,List.any_cons,ih,h.1]
theorem KV.repl {kvs:List (κ×V)}{vs:List (κ×Value)}(r:KV kvs vs) (k:κ) {y:V}{u:Value}(ry:RelV y u) :
  KV (kvs.map fun kv=>if kv.1=k then (kv.1,y) else kv) (vs.map fun kv=>if kv.1=k then (kv.1,u) else kv):=by
 unfold KV at r ⊢
 induction r with
 | nil=>exact .nil
 | @cons p q ps qs h t ih =>
  rw [List.map_cons,List.map_cons]
  refine .cons ?_ ih
  obtain ⟨h1,h2⟩:=h
  by_cases e:p.1=k
  ·rw [if_pos e,if_pos (h1.symm.trans e)]; exact ⟨h1,ry⟩
  ·rw [if_neg e,if_neg (fun z=>e (h1.trans z))]; exact ⟨h1,h2⟩
theorem KV.put {kvs:List (κ×V)}{vs:List (κ×Value)}(r:KV kvs vs) (k:κ) {y:V}{u:Value}(ry:RelV y u):KV (putK kvs k y) (stored vs k u):=by
 unfold putK stored
 rw [r.any k]
 by_cases e:(vs.any fun kv=>decide (kv.1=k))=true
 ·rw [if_pos e,if_pos e]; exact r.repl k ry
 ·rw [if_neg e,if_neg e]; exact Paired.snoc r ⟨rfl,ry⟩
theorem KV.drop {kvs:List (κ×V)}{vs:List (κ×Value)}(r:KV kvs vs) (k:κ):KV (dropK kvs k) (without vs k):=by
 unfold KV at r ⊢
 unfold dropK without
 induction r with
 | nil=>exact .nil
 | @cons p q ps qs h t ih =>
  obtain ⟨h1,h2⟩:=h
  rw [List.filter_cons,List.filter_cons]
  by_cases e:p.1=k
  ·have a:¬ decide (p.1≠k)=true:=by simp [e]
   have b:¬ decide (q.1≠k)=true:=by simp [h1.symm.trans e]
   rw [if_neg a,if_neg b]; exact ih
  ·have e':¬ q.1=k:=fun z=>e (h1.trans z)
   have a:decide (p.1≠k)=true:=by simp [e]
   have b:decide (q.1≠k)=true:=by simp [e']
   rw [if_pos a,if_pos b]; exact .cons ⟨h1,h2⟩ ih
theorem KV.length {kvs:List (κ×V)}{vs:List (κ×Value)}(r:KV kvs vs):kvs.length=vs.length:=Paired.length r
theorem dropK_le (kvs:List (κ×V)) (k:κ):(dropK kvs k).length<=kvs.length:=List.length_filter_le _ _
end
theorem kV_is {P:Program}{w:World}{k:Key}{u:Value}(r:RelV (kV k) u):(mixKind P w).is k u=true:=by
 cases k with
 | inl i=>obtain ⟨t,e⟩:=(show ∃ t,u=Value.int i t from r); subst e; exact mixKind_int P w i t
 | inr x=>obtain ⟨t,e⟩:=(show ∃ t,u=Value.str x t from r); subst e; exact mixKind_str P w x t
theorem items_are {P:Program}{w:World}:∀{ks:List Key}{us:List Value},Vals (ks.map kV) us->ItemsAre (mixKind P w) ks us
 | [],_,r=>by rw [List.map_nil] at r; cases r; exact .nil
 | k :: ks,_,r=>by
  rw [List.map_cons] at r
  cases r with
  | cons h t=>exact .cons (kV_is h) (items_are t)
abbrev KT (H:Hp):List (List Key×V)->List (List Key×Addr×Value)->Prop:=Paired fun p q=>p.1=q.1/\H q.2.1=some (.tup (p.1.map kV))/\RelV p.2 q.2.2
theorem KT.val {H:Hp}{kvs:List (List Key×V)}{xs:List (List Key×Addr×Value)}(r:KT H kvs xs) (k:List Key):RelO (valV kvs k) ((atKey xs k).map (·.2)):=by
 induction r with
 | nil=>exact True.intro
 | @cons p q ps qs h t ih =>
  obtain ⟨h1,_,h2⟩:=h
  by_cases e:p.1=k
  ·have e':q.1=k:=h1.symm.trans e
   have b:atKey (q :: qs) k=some q.2:=by simp [atKey,List.find?_cons,e']
   rw [valV_pos e,b]; exact h2
  ·have e':¬ q.1=k:=fun z=>e (h1.trans z)
   have b:atKey (q :: qs) k=atKey qs k:=by simp [atKey,List.find?_cons,e']
   rw [valV_neg e,b]; exact ih
theorem KT.repl {H:Hp}{kvs:List (List Key×V)}{xs:List (List Key×Addr×Value)}(r:KT H kvs xs) (k:List Key) {y:V}{u:Value}(ry:RelV y u) :
  KT H (kvs.map fun kv=>if kv.1=k then (kv.1,y) else kv) (xs.map (putAt k u)):=by
 induction r with
 | nil=>exact .nil
 | @cons p q ps qs h t ih =>
  rw [List.map_cons,List.map_cons]
  refine .cons ?_ ih
  obtain ⟨h1,h2,h3⟩:=h
  unfold putAt
  by_cases e:p.1=k
  ·rw [if_pos e,if_pos (h1.symm.trans e)]; exact ⟨h1,h2,ry⟩
  ·rw [if_neg e,if_neg (fun z=>e (h1.trans z))]; exact ⟨h1,h2,h3⟩
theorem KT.put {H:Hp}{kvs:List (List Key×V)}{xs:List (List Key×Addr×Value)}(r:KT H kvs xs) (k:List Key) {b:Addr}{y:V}{u:Value}(hb:H b=some (.tup (k.map kV))) (ry:RelV y u) :
  KT H (putK kvs k y) (storedH xs k b u):=by
 have e:(kvs.any fun kv=>decide (kv.1=k))=(atKey xs k).isSome:=by
  rw [valV_any,(r.val k).isSome_eq,Option.isSome_map]
 unfold putK storedH
 rw [e]
 by_cases q:(atKey xs k).isSome=true
 ·rw [if_pos q,if_pos q]; exact r.repl k ry
 ·rw [if_neg q,if_neg q]; exact Paired.snoc r ⟨rfl,hb,ry⟩
theorem KT.keeps {H H':Hp}{kvs:List (List Key×V)}{xs:List (List Key×Addr×Value)}(r:KT H kvs xs) (ht:∀ b ys,H b=some (.tup ys)->H' b=some (.tup ys)):KT H' kvs xs :=
 Paired.mapP r fun _ _ z=>⟨z.1,ht _ _ z.2.1,z.2.2⟩
section
variable {P:Program}{w:World}{H:Hp}{h:Heap}{a:Addr}
theorem rd_of {u:HO}(ok:HOk P w H h) (e:Rd H a u):ObjOk P w H h a u:=e.ok ok
theorem dk_rd {kvs:List (Key×V)}(ok:HOk P w H h) (e:Rd H a (.dK kvs)):kvs.length<=sizeLine/\(a == sysModules)=false/\∃ vs,KV kvs vs/\h.DictOf (mixKind P w) a vs :=
 show ObjOk P w H h a (.dK kvs) from rd_of ok e
theorem dk_of {kvs:List (Key×V)}(ok:HOk P w H h) (e:H a=some (.dK kvs)):kvs.length<=sizeLine/\(a == sysModules)=false/\∃ vs,KV kvs vs/\h.DictOf (mixKind P w) a vs:=dk_rd ok (.inl e)
theorem key_of {ks:List Key}(ok:HOk P w H h) (e:H a=some (.tup (ks.map kV))):(tupleKind (mixKind P w)).is h ks a:=by
 obtain ⟨_,its,r,o,h1,h2,n,h3⟩:=(show ObjOk P w H h a (.tup (ks.map kV)) from ok a _ e)
 exact ⟨o,its.toArray,n,h1,h2,h3,by simpa using items_are r⟩
theorem dt_rd {kvs:List (List Key×V)}(ok:HOk P w H h) (e:Rd H a (.dT kvs)):kvs.length<=sizeLine/\(a == sysModules)=false /\
  ∃ xs,KT H kvs xs/\h.DictOfH (tupleKind (mixKind P w)) a xs:=by
 obtain ⟨z,y,xs,r,o,es,ep,h1,h2,h3,h4,h5⟩:=(show ObjOk P w H h a (.dT kvs) from rd_of ok e)
 refine ⟨z,y,xs,r,o,es,ep,h1,h2,h3,h4,fun x hx=>?_,h5⟩
 have all:∀{l:List (List Key×V)} {m:List (List Key×Addr×Value)},KT H l m->∀ x∈m,(tupleKind (mixKind P w)).is h x.1 x.2.1:=by
  intro l m q
  induction q with
  | nil=>intro x hx; exact nomatch hx
  | @cons p q ps qs hq t ih =>
   intro x hx
   rcases List.mem_cons.mp hx with e | hx
   ·subst e
    exact key_of ok (by rw [<- hq.1]; exact hq.2.1)
   ·exact ih x hx
 exact all r x hx
theorem dt_of {kvs:List (List Key×V)}(ok:HOk P w H h) (e:H a=some (.dT kvs)):kvs.length<=sizeLine/\(a == sysModules)=false /\
  ∃ xs,KT H kvs xs/\h.DictOfH (tupleKind (mixKind P w)) a xs:=dt_rd ok (.inl e)
end
def DGet (H:Hp) (a:Addr) (y:V) (r:Option V):Prop :=
 (∃ kvs k,Rd H a (.dK kvs)/\y=kV k/\r=valV kvs k)∨∃ kvs k b,Rd H a (.dT kvs)/\y=.ref b/\H b=some (.tup (k.map kV))/\r=valV kvs k
def DPut (H:Hp) (a:Addr) (y v:V) (H':Hp):Prop :=
 (∃ kvs k,H a=some (.dK kvs)/\y=kV k/\kvs.length < sizeLine/\H'=upd H a (.dK (putK kvs k v))) ∨
 ∃ kvs k b,H a=some (.dT kvs)/\y=.ref b/\H b=some (.tup (k.map kV))/\kvs.length < sizeLine/\H'=upd H a (.dT (putK kvs k v))
theorem DGet.k {H:Hp}{a:Addr}{kvs:List (Key×V)}{k:Key}(e:H a=some (.dK kvs)):DGet H a (kV k) (valV kvs k):=.inl ⟨kvs,k,.inl e,rfl,rfl⟩
theorem DGet.t {H:Hp}{a b:Addr}{kvs:List (List Key×V)}{k:List Key}(e:H a=some (.dT kvs)) (eb:H b=some (.tup (k.map kV))):DGet H a (.ref b) (valV kvs k):=.inr ⟨kvs,k,b,.inl e,rfl,eb,rfl⟩
theorem DPut.k {H:Hp}{a:Addr}{kvs:List (Key×V)}{k:Key}{v:V}(e:H a=some (.dK kvs)) (hl:kvs.length < sizeLine):DPut H a (kV k) v (upd H a (.dK (putK kvs k v))):=.inl ⟨kvs,k,e,rfl,hl,rfl⟩
theorem DPut.t {H:Hp}{a b:Addr}{kvs:List (List Key×V)}{k:List Key}{v:V}(e:H a=some (.dT kvs)) (eb:H b=some (.tup (k.map kV))) (hl:kvs.length < sizeLine) :
  DPut H a (.ref b) v (upd H a (.dT (putK kvs k v))):=.inr ⟨kvs,k,b,e,rfl,eb,hl,rfl⟩
section
variable {X:Cx}{pins:List (Addr×Obj)}{σ:St}{H:Hp}{s:Shared}{a:Addr}{y v:V}{u r:Value}{o:Option V}{A:Around}{E:Value->Shared->Prop}
theorem Inv.big (I:Inv X pins σ H s):sysModules < s.heap.objs.size:=by
 have h:mainGlobals < s.heap.objs.size:=(I.mod.glob.keeps I.bk).lt
 exact Nat.lt_trans (by decide) h
theorem d_getItem {Q:Value->Shared->Prop}(hu:A.units + 1 < cLine) (I:Inv X pins σ H s) (g:DGet H a y (some v)) (ry:RelV y u) (h:∀ w' s',Inv X pins σ H s'->RelV v w'->Q w' s') :
  wpAny (model X.prog X.w) A (getItem (.ref a) u) Q E s:=by
 rcases g with ⟨kvs,k,e,ey,l⟩ | ⟨kvs,k,b,e,ey,eb,l⟩
 ·subst ey
  obtain ⟨z,hd,vs,rel,dd⟩:=dk_rd I.hok e
  obtain ⟨w',hw,rw'⟩:=RelO.some_of (v:=v) (o:=valueAt vs k) (by rw [l]; exact rel.val k)
  exact wpAny_getItem_of (kV_is ry) dd.mapOf hw (h w' _ (I.tok _) rw')
 ·subst ey
  cases (show u=Value.ref b from ry)
  obtain ⟨z,hd,xs,rel,dd⟩:=dt_rd I.hok e
  obtain ⟨w',hw,rw'⟩:=RelO.some_of (v:=v) (o:=(atKey xs k).map (·.2)) (by rw [l]; exact rel.val k)
  obtain ⟨p,hp,hp2⟩:=Option.map_eq_some_iff.mp hw
  refine wpAny_getItem_heap (tupleKind_room_in1 hu) (key_of I.hok eb) dd hp ?_
  rw [hp2]
  exact h w' _ (I.tok _) rw'
theorem d_notIn {Q:Value->Shared->Prop}(hu:A.units + 1 < cLine) (I:Inv X pins σ H s) (g:DGet H a y o) (ry:RelV y u) (h:∀ s',Inv X pins σ H s'->Q (.bool (!o.isSome)) s') :
  wpAny (model X.prog X.w) A (compareOp .NotIn u (.ref a)) Q E s:=by
 rcases g with ⟨kvs,k,e,ey,l⟩ | ⟨kvs,k,b,e,ey,eb,l⟩
 ·subst ey
  obtain ⟨z,hd,vs,rel,dd⟩:=dk_rd I.hok e
  refine wpAny_notIn_of (kV_is ry) hd dd.mapOf ?_
  rw [<- (rel.val k).isSome_eq,<- l]
  exact h _ (I.tok _)
 ·subst ey
  cases (show u=Value.ref b from ry)
  obtain ⟨z,hd,xs,rel,dd⟩:=dt_rd I.hok e
  refine wpAny_notIn_heap (tupleKind_room_in1 hu) (key_of I.hok eb) hd dd ?_
  have q:=(rel.val k).isSome_eq
  rw [Option.isSome_map] at q
  rw [<- q,<- l]
  exact h _ (I.tok _)
theorem d_write {h':Heap}{t':Nat}{ob:HO}(I:Inv X pins σ H s) (mu:Mut (H a)) (hs:Heap.SameBut a s.heap h') (he:∃ q,h'.get? a=some q) (new:ObjOk X.prog X.w (upd H a ob) h' a ob) :
  Inv X pins σ (upd H a ob) { s with heap:=h',toks:=t' } :=
 I.write (x:=a) (e:=a) mu (.inl rfl) (fun b q hb z=>(hs.2 b hb).trans z) he new
theorem dk_new {P:Program}{w:World}{H':Hp}{h':Heap}{kvs:List (Key×V)}{vs:List (Key×Value)}(z:kvs.length<=sizeLine) (hd:(a == sysModules)=false) (rel:KV kvs vs) (dd:h'.DictOf (mixKind P w) a vs) :
  ObjOk P w H' h' a (.dK kvs):=⟨z,hd,vs,rel,dd⟩
theorem d_setItem {H':Hp}{Q:Unit->Shared->Prop}(hu:A.units + 1 < cLine) (I:Inv X pins σ H s) (g:DPut H a y v H') (ry:RelV y u) (rv:RelV v r) (h:∀ s',Inv X pins σ H' s'->Q () s') :
  wpAny (model X.prog X.w) A (setItem (.ref a) u r) Q E s:=by
 rcases g with ⟨kvs,k,e,ey,l,eH⟩ | ⟨kvs,k,b,e,ey,eb,l,eH⟩
 ·subst ey eH
  obtain ⟨z,hd,vs,rel,dd⟩:=dk_of I.hok e
  have hz:vs.length<=sizeLine:=by rw [<- rel.length]; exact z
  have hl:(putK kvs k v).length<=sizeLine:=by have:=length_putK kvs k v; omega
  refine wpAny_setItem_pairs (hsz:=hz) (kV_is ry) dd fun h' dd' hs=>h _ ?_
  have he:∃ q,h'.get? a=some q:=let ⟨q,_,_,hq,_⟩:=dd'; ⟨q,hq⟩
  exact d_write I (by rw [e]; exact True.intro) hs he (dk_new hl hd (rel.put k rv) dd')
 ·subst ey eH
  cases (show u=Value.ref b from ry)
  obtain ⟨z,hd,xs,rel,dd⟩:=dt_of I.hok e
  have hz:xs.length<=sizeLine:=by rw [<- Paired.length rel]; exact z
  have hl:(putK kvs k v).length<=sizeLine:=by have:=length_putK kvs k v; omega
  refine wpAny_setItem_heap (hsz:=hz) (tupleKind_room_in1 hu) (key_of I.hok eb) dd fun h' dd' hs=>h _ ?_
  obtain ⟨q,es,ep,hq,h2,h3,h4,_,h5⟩:=dd'
  refine d_write I (by rw [e]; exact True.intro) hs ⟨q,hq⟩ ⟨hl,hd,_,(rel.put k eb rv).keeps fun c ys ec=>?_,q,es,ep,hq,h2,h3,h4,h5⟩
  rw [upd_ne (ne_of ec e (fun z=>nomatch z))]
  exact ec
end
section
variable {X:Cx}{pins:List (Addr×Obj)}{σ:St}{H:Hp}{s:Shared}{a:Addr}{kvs:List (Key×V)}{k:Key}{u:Value}{A:Around}{E:Value->Shared->Prop}
theorem d_delItem {Q:Unit->Shared->Prop}(I:Inv X pins σ H s) (e:H a=some (.dK kvs)) (ry:RelV (kV k) u) (l:(valV kvs k).isSome=true) (h:∀ s',Inv X pins σ (upd H a (.dK (dropK kvs k))) s'->Q () s') :
  wpAny (model X.prog X.w) A (delItem (.ref a) u) Q E s:=by
 obtain ⟨z,hd,vs,rel,dd⟩:=dk_of I.hok e
 refine wpAny_delItem_slot dd.typeIs (by decide) PySem.F.slot_dict_delitem
  (call_meetsIn PySem.F.slot_dict_delitem dd.typeIs PySem.F.entry_dict_delitem (PySem.F.args_dict_delitem_2 _ _) (meets_dict_delitem_pairs (mixKind X.prog X.w) a (kV_is ry)) ⟨vs,dd,by rw [<- rel.length]; exact z,by rw [<- (rel.val k).isSome_eq]; exact l,fun h' dd' hs=>h _ ?_⟩)
 have he:∃ q,h'.get? a=some q:=let ⟨q,_,_,hq,_⟩:=dd'; ⟨q,hq⟩
 exact d_write I (by rw [e]; exact True.intro) hs he (dk_new (Nat.le_trans (dropK_le kvs k) z) hd (rel.drop k) dd')
end
def NoSl (i:Expr):Prop:=∀ ov iv,subscripted i false ov iv=operate [ov,iv] (getItem ov iv)
theorem subD_of {prog:Program}{w:World}{A:Around}{E:Value->Shared->Prop}{s:Shared}{env:Env}{value slice:Expr}{pos:Pos}{T id:String}{Q:Value->Shared->Prop}
  (hl:typeLookup (.type T) "__getitem__" = pure (some (.builtin id))) (hs:NoSl slice)
  (h:wpAny (model prog w) A (eval value env) (fun o s₁=>wpAny (model prog w) A (eval slice env) (fun i s₂=>s₂.TypeIs o T/\wpAny (model prog w) A (getItem o i) Q E s₂) E s₁) E s) :
  wpAny (model prog w) A (eval (.Subscript value slice pos) env) Q E s:=by
 refine Subscript_ (wpAny_mono h (fun o s₁ h₁=>wpAny_mono h₁ (fun i s₂ h₂=>?_) fun _ _ x=>x) fun _ _ x=>x)
 obtain ⟨hT,h₂⟩:=h₂
 unfold subscriptTail
 refine wpAny_bind ?_
 rw [getitemInPython_of_ne hT.not_modules]
 refine wpAny_bind (wpAny_specialOf hT hl ?_)
 have fin:wpAny (model prog w) A (subscripted slice false o i) (fun r s₃=>wpAny (model prog w) A (letTemporaryGo value o r >>= fun _=>pure r) Q E s₃) E s₂:=by
  rw [hs o i]
  exact wpAny_operating (wpAny_mono h₂ (fun r s₃ h₃=>wpAny_bind (wpAny_letTemporaryGo (wpAny_pure h₃))) fun _ _ x=>x)
 first
  | exact wpAny_pure (wpAny_bind fin)
  | exact wpAny_bind (wpAny_pure (wpAny_bind fin))
  | exact wpAny_bind fin
theorem dict_typeIs {X:Cx}{pins:List (Addr×Obj)}{σ:St}{H:Hp}{s:Shared}{a:Addr}{y:V}{o:Option V}(I:Inv X pins σ H s) (g:DGet H a y o):s.TypeIs (.ref a) "dict" := by
 rcases g with ⟨kvs,k,e,_,_⟩ | ⟨kvs,k,b,e,_,_,_⟩
 ·obtain ⟨_,_,vs,_,dd⟩:=dk_rd I.hok e
  exact dd.typeIs
 ·obtain ⟨_,_,xs,_,dd⟩:=dt_rd I.hok e
  exact dd.typeIs
def tDGet (td ty:TE):TE:=fun σ H Q=>td σ H fun x H1=>ty σ H1 fun y H2=>∃ a v,x=.ref a/\DGet H2 a y (some v)/\Q v H2
def tDNotIn (ty td:TE):TE:=fun σ H Q=>ty σ H fun y H1=>td σ H1 fun x H2=>∃ a o,x=.ref a/\DGet H2 a y o/\Q (.bl (!o.isSome)) H2
def sDPut (td ty tv:TE):TS:=fun D σ H=>tv σ H fun v H1=>td σ H1 fun x H2=>ty σ H2 fun y H3=>∃ a H4,x=.ref a/\DPut H3 a y v H4/\D.nx σ H4
def sDAug (td ty tv:TE) (rd:V->V->Hp->VK->Prop):TS:=fun D σ H=>td σ H fun x H1=>ty σ H1 fun y H2=>∃ a v,x=.ref a/\DGet H2 a y (some v) /\
 tv σ H2 fun y2 H3=>rd v y2 H3 fun z H4=>∃ H5,DPut H4 a y z H5/\D.nx σ H5
def sDDel (td ty:TE):TS:=fun D σ H=>td σ H fun x H1=>ty σ H1 fun y H2=>∃ a kvs k,x=.ref a/\H2 a=some (.dK kvs)/\y=kV k/\(valV kvs k).isSome=true/\D.nx σ (upd H2 a (.dK (dropK kvs k)))
section
variable {X:Cx}{o i e value:Expr}{pos pos' tpos:Pos}{td ty tv:TE}
theorem pe_dget (hu:X.A.units + 1 < cLine) (ho:PE X o td) (hi:PE X i ty) (hs:NoSl i):PE X (.Subscript o i pos) (tDGet td ty):=by
 intro pins s σ H Q I h
 refine subD_of PySem.F.slot_dict_getitem.lookup hs (thn (ho pins s σ H _ I h) fun u s1 ⟨x,H1,I1,rx,q1⟩=>thn (hi pins s1 σ H1 _ I1 q1) fun iv s2 ⟨y,H2,I2,ry,a,v,ex,g,q2⟩=>?_)
 subst ex
 obtain rfl:u=Value.ref a:=rx
 exact ⟨dict_typeIs I2 g,d_getItem hu I2 g ry fun w' s3 I3 rw'=>⟨v,H2,I3,rw',q2⟩⟩
theorem pc_dnotin (hu:X.A.units + 1 < cLine) (hi:PE X i ty) (ho:PE X o td):PC X .NotIn i o (tDNotIn ty td):=by
 intro pins s σ H Q I h
 refine thn (hi pins s σ H _ I h) fun iv s1 ⟨y,H1,I1,ry,q1⟩=>thn (ho pins s1 σ H1 _ I1 q1) fun u s2 ⟨x,H2,I2,rx,a,ov,ex,g,q2⟩=>?_
 subst ex
 obtain rfl:u=Value.ref a:=rx
 exact d_notIn hu I2 g ry fun s3 I3=>⟨.bl (!ov.isSome),H2,I3,rfl,q2⟩
theorem ps_dput (hu:X.A.units + 1 < cLine) (ho:PE X o td) (hi:PE X i ty) (hv:PE X value tv) (hs:swapsWith value (some (.Subscript o i pos')) pos.line X.env=pure false) :
  PS X (.Assign [.Subscript o i pos'] value pos) (sDPut td ty tv):=by
 intro pins s σ H D I h
 refine wpAny_Assign_Subscript (thn (hv pins s σ H _ I h) fun r s1 ⟨v,H1,I1,rv,q1⟩=>thn (ho pins s1 σ H1 _ I1 q1) fun u s2 ⟨x,H2,I2,rx,q2⟩=>thn (hi pins s2 σ H2 _ I2 q2) fun iv s3 ⟨y,H3,I3,ry,a,H4,ex,g,q3⟩=>?_) hs
 subst ex
 obtain rfl:u=Value.ref a:=rx
 exact d_setItem hu I3 g ry rv fun s4 I4=>⟨σ,H4,I4,q3⟩
theorem ps_daug {op:Operator}{rd:V->V->Hp->VK->Prop}(hu:X.A.units + 1 < cLine) (ho:PE X o td) (hi:PE X i ty) (hv:PE X value tv) (hop:InOp X op rd)
  (ha:∀ ov iv new,augStore i ov iv new=(do holding [new,ov,iv] (setItem ov iv new); release [new,ov,iv] []; pure .next)):PS X (.AugAssign (.Subscript o i tpos) op value pos) (sDAug td ty tv rd):=by
 intro pins s σ H D I h
 refine wpAny_AugAssign_SubscriptAny (thn (ho pins s σ H _ I h) fun u s1 ⟨x,H1,I1,rx,q1⟩=>thn (hi pins s1 σ H1 _ I1 q1) fun iv s2 ⟨y,H2,I2,ry,a,v,ex,g,q2⟩=>?_) ha
 subst ex
 obtain rfl:u=Value.ref a:=rx
 refine d_getItem hu I2 g ry fun w' s3 I3 rw'=>thn (hv pins s3 σ H2 _ I3 q2) fun w2 s4 ⟨y2,H3,I4,ry2,q3⟩=>thn (hop pins s4 σ H3 v y2 w' w2 _ I4 rw' ry2 q3) fun w3 s5 ⟨z,H4,I5,rz,H5,g5,q4⟩=>?_
 exact d_setItem hu I5 g5 ry rz fun s6 I6=>⟨σ,H5,I6,q4⟩
theorem ps_ddel (ho:PE X o td) (hi:PE X i ty):PS X (.Delete [.Subscript o i tpos] pos) (sDDel td ty):=by
 intro pins s σ H D I h
 refine wpAny_Delete (wpAny_deleteEach_cons (wpAny_delete_Subscript (thn (ho pins s σ H _ I h) fun u s1 ⟨x,H1,I1,rx,q1⟩=>thn (hi pins s1 σ H1 _ I1 q1) fun iv s2 ⟨y,H2,I2,ry,a,kvs,k,ex,e,ey,l,q2⟩=>?_)))
 subst ex ey
 obtain rfl:u=Value.ref a:=rx
 exact d_delItem I2 e ry l fun s3 I3=>wpAny_deleteEach_nil ⟨σ,_,I3,q2⟩
end
theorem dk_empty {P:Program}{w:World}{H:Hp}(h:Heap) (hb:sysModules < h.objs.size):ObjOk P w H (h.push { cls:=.type "dict",data:=.dict #[] }) h.objs.size (.dK []) :=
 ⟨Nat.zero_le _,beq_eq_false_iff_ne.mpr (Ne.symm (Nat.ne_of_lt hb)),[],.nil,Heap.DictOf.new h⟩
theorem dt_empty {P:Program}{w:World}{H:Hp}(h:Heap) (hb:sysModules < h.objs.size):ObjOk P w H (h.push { cls:=.type "dict",data:=.dict #[] }) h.objs.size (.dT []) :=
 ⟨Nat.zero_le _,beq_eq_false_iff_ne.mpr (Ne.symm (Nat.ne_of_lt hb)),[],.nil,_,#[],0,Heap.get?_push_size _ rfl,⟨rfl,rfl,rfl⟩,rfl,rfl,List.nodup_nil⟩
def tDNewK:TE:=fun _ H Q=>∀ p,H p=none->Q (.ref p) (upd H p (.dK []))
def tDNewT:TE:=fun _ H Q=>∀ p,H p=none->Q (.ref p) (upd H p (.dT []))
section
variable {X:Cx}{pos:Pos}
theorem pe_dnewK:PE X (.Dict [] [] pos) tDNewK:=fun pins s σ H Q I h =>
 wpAny_Dict_empty ⟨.ref s.heap.objs.size,_,I.laid (a:=s.heap.objs.size) (o:=.dK []) (t':=s.toks) (fun _ _ q=>Heap.get?_push_of_some _ q) (Nat.le_refl _) (dk_empty s.heap I.big),rfl,h _ (I.hok.fresh (Nat.le_refl _))⟩
theorem pe_dnewT:PE X (.Dict [] [] pos) tDNewT:=fun pins s σ H Q I h =>
 wpAny_Dict_empty ⟨.ref s.heap.objs.size,_,I.laid (a:=s.heap.objs.size) (o:=.dT []) (t':=s.toks) (fun _ _ q=>Heap.get?_push_of_some _ q) (Nat.le_refl _) (dt_empty s.heap I.big),rfl,h _ (I.hok.fresh (Nat.le_refl _))⟩
end
structure M1 (X:Cx) (o:Expr) (m:Str) (apos:Pos) (e:Expr) (cpos:Pos):Prop where
 base:attributeBase o m X.env (eval o X.env)=eval o X.env
 few:((backTo cpos (starEach [e] X.env)).all (fun x=>!x.1) && (backToKw cpos (keywordEach [] X.env)).all (fun x=>x.1.isSome)
  && decide (([e]:List Expr).length + ([]:List Keyword).length + (if ([]:List Keyword).isEmpty then 0 else 1) < 30))=true
 line:(apos.endLine == cpos.line)=true
 trees:backTo cpos (starEach [e] X.env)=[(false,eval e X.env)]
structure M2 (X:Cx) (o:Expr) (m:Str) (apos:Pos) (e f:Expr) (cpos:Pos):Prop where
 base:attributeBase o m X.env (eval o X.env)=eval o X.env
 few:((backTo cpos (starEach [e,f] X.env)).all (fun x=>!x.1) && (backToKw cpos (keywordEach [] X.env)).all (fun x=>x.1.isSome)
  && decide (([e,f]:List Expr).length + ([]:List Keyword).length + (if ([]:List Keyword).isEmpty then 0 else 1) < 30))=true
 line:(apos.endLine == cpos.line)=true
 trees:backTo cpos (starEach [e,f] X.env)=[(false,eval e X.env),(false,eval f X.env)]
def IsD (H:Hp) (a:Addr):Prop:=(∃ kvs,Rd H a (.dK kvs))∨∃ kvs,Rd H a (.dT kvs)
theorem isD_at {X:Cx}{pins:List (Addr×Obj)}{σ:St}{H:Hp}{s:Shared}{a:Addr}(I:Inv X pins σ H s) (d:IsD H a) :
  s.TypeIs (.ref a) "dict" /\ (∀ b,Value.ref a=.ref b->∃ ob,s.heap.get? b=some ob/\ob.dict=none)/\(a == sysModules)=false:=by
 rcases d with ⟨kvs,e⟩ | ⟨kvs,e⟩
 ·obtain ⟨_,hd,vs,_,dd⟩:=dk_rd I.hok e
  refine ⟨dd.typeIs,fun b q=>?_,hd⟩
  cases q
  obtain ⟨ob,_,_,h1,h2,_⟩:=dd
  exact ⟨ob,h1,h2.2.1⟩
 ·obtain ⟨_,hd,xs,_,dd⟩:=dt_rd I.hok e
  refine ⟨dd.typeIs,fun b q=>?_,hd⟩
  cases q
  obtain ⟨ob,_,_,h1,h2,_⟩:=dd
  exact ⟨ob,h1,h2.2.1⟩
section
variable {X:Cx}{pins:List (Addr×Obj)}{σ:St}{H:Hp}{s:Shared}{a:Addr}{y d:V}{u r:Value}{o:Option V}{A:Around}{E:Value->Shared->Prop}
theorem d_get2 {Q:Value->Shared->Prop}(hu:A.units + 1 < cLine) (I:Inv X pins σ H s) (g:DGet H a y o) (ry:RelV y u) (rd:RelV d r) (h:∀ w' s',Inv X pins σ H s'->RelV (o.getD d) w'->Q w' s') :
  wpAny (model X.prog X.w) A (call (.builtin "dict.get") [.ref a,u,r]) Q E s:=by
 rcases g with ⟨kvs,k,e,ey,l⟩ | ⟨kvs,k,b,e,ey,eb,l⟩
 ·subst ey
  obtain ⟨z,hd,vs,rel,dd⟩:=dk_rd I.hok e
  refine call_meetsIn PySem.F.slot_dict_get dd.typeIs PySem.F.entry_dict_get (PySem.F.args_dict_get_3 _ _ _) (meets_dict_get_default (mixKind X.prog X.w) a (kV_is ry) hd r) ⟨_,dd.mapOf,h _ _ (I.tok _) ?_⟩
  rw [l]
  exact (rel.val k).getD rd
 ·subst ey
  cases (show u=Value.ref b from ry)
  obtain ⟨z,hd,xs,rel,dd⟩:=dt_rd I.hok e
  refine call_meetsIn PySem.F.slot_dict_get dd.typeIs PySem.F.entry_dict_get (PySem.F.args_dict_get_3 _ _ _) (meetsH_dict_get_default (tupleKind (mixKind X.prog X.w)) a b hd r) ⟨tupleKind_room_in1 hu,k,xs,key_of I.hok eb,dd,h _ _ (I.tok _) ?_⟩
  rw [l]
  exact (rel.val k).getD rd
end
def tDGet2 (td ty tx:TE):TE:=fun σ H Q=>td σ H fun x H1=>∃ a,x=.ref a/\IsD H1 a/\ty σ H1 fun y H2=>tx σ H2 fun z H3=>∃ o,DGet H3 a y o/\Q (o.getD z) H3
section
variable {X:Cx}{o e f:Expr}{apos cpos:Pos}{td ty tx:TE}
theorem pe_dget2 (hu:X.A.units + 1 < cLine) (ho:PE X o td) (he:PE X e ty) (hf:PE X f tx) (m:M2 X o "get" apos e f cpos):PE X (.Call (.Attribute o "get" apos) [e,f] [] cpos) (tDGet2 td ty tx):=by
 intro pins s σ H Q I h
 refine wpAny_Call_method m.base m.few m.line PySem.F.plainAttrs_dict PySem.F.slot_dict_get PySem.F.type_dict_get (thn (ho pins s σ H _ I h) fun u s1 ⟨x,H1,I1,rx,a,ex,d,q1⟩=>?_)
 subst ex
 obtain rfl:u=Value.ref a:=rx
 obtain ⟨t1,t2,_⟩:=isD_at I1 d
 refine ⟨t1,t2,?_⟩
 rw [m.trees]
 refine Calls.callWith_builtin rfl (Calls.evalArgs_plain (Calls.spliced_cons (thn (he pins s1 σ H1 _ I1 q1) fun iv s2 ⟨y,H2,I2,ry,q2⟩ =>
  Calls.spliced_cons (thn (hf pins s2 σ H2 _ I2 q2) fun fv s3 ⟨z,H3,I3,rz,ov,g,q3⟩=>Calls.spliced_nil ?_))))
 exact d_get2 hu I3 g ry rz fun w' s4 I4 rw'=>⟨_,H3,I4,rw',q3⟩
end
section
variable {X:Cx}{pins:List (Addr×Obj)}{σ:St}{H:Hp}{s:Shared}{a:Addr}{kvs:List (Key×V)}{A:Around}{E:Value->Shared->Prop}
end
section
variable {X:Cx}{pins:List (Addr×Obj)}{σ:St}{H:Hp}{s:Shared}{a:Addr}{y:V}{u:Value}{A:Around}{E:Value->Shared->Prop}
end
end L2
namespace Att
open PySem PySem.W PySem.Calls PyProof.Rows
theorem ints_of_wellAll {P:Params}{h:Heap}:∀(ns:List Int) (vs:List Value),WellAll P h vs (ns.map WData.int)->IntsAre vs ns:=by
 intro ns
 induction ns with
 | nil =>
  intro vs w
  rw [List.map_nil] at w
  cases w
  exact .nil
 | cons n ns ih =>
  intro vs w
  rw [List.map_cons] at w
  cases w with
  | cons a b =>
   cases a
   exact .cons _ _ (ih _ b)
theorem script_of {l:OpenLaw}{n:Nat}(hn:l.most=some n) {P:Params}{h:Heap}{args:List WData}{vals:List Value}
  (hpre:l.row.toRowW.claim.pre args=true) (hwl:WellAll P h vals args) :
  ∃ a vs ns,vals=[Value.ref a]/\args=[WData.list (ns.map WData.int)]/\h.get? a=some { cls:=.type "list",data:=.seq vs.toArray }/\IntsAre vs ns/\ns.length<=n:=by
 have hsh:WShape.hasAll [] args [.list .int]=true:=(pre_splitW hpre).1
 have hc:l.pre.holds [] { args:=args }=true:=(pre_splitW hpre).2
 obtain ⟨d,r,rfl,h1,h2⟩:=hasAllW_cons hsh
 obtain rfl:=hasAllW_nil h2
 obtain ⟨xs,rfl,h3⟩:=hasW_list h1
 obtain ⟨ns,rfl⟩:=items_int h3
 have hlen:ns.length<=n:=by
  unfold OpenLaw.pre at hc
  have h4:(WTm.not (.lt (.lit (.int (n:Int))) (.len (.arg 0)))).holds [] { args:=[.list (ns.map .int)] }=true:=by
   have h4:=(holds_andW hc).1
   rw [hn] at h4
   exact h4
  have h5:=condW_of h4 (w_not (w_lt w_lit (w_len_list (w_arg rfl))))
  rw [List.length_map] at h5
  refine Nat.le_of_not_lt fun q=>?_
  have q':(n:Int) < ((ns.length:Nat):Int):=by omega
  first
   | (rw [decide_eq_true q'] at h5; exact absurd h5 (by decide))
   | (simp at h5; omega)
 cases hwl with
 | cons w1 w2 =>
  cases w2
  cases w1 with
  | list ho hall=>exact ⟨_,_,ns,rfl,rfl,ho,ints_of_wellAll ns _ hall,hlen⟩
theorem post_true (l:OpenLaw) (args:List WData):l.row.toRowW.claim.post args (.bool true) args=true :=
 postW_of (r:=l.row.toRowW) (X:=(true == true))
  (show WShape.has [] (.bool true) .bool=true by first | rfl | decide | simp [WShape.has,WShape.arms,WShape.armsAll])
  (show (WTm.eq .res (.lit (.bool true))).value [] { args:=args,res:=some (.bool true),after:=args }=some (.bool (true == true)) from w_eq_bool (w_res rfl) w_lit) rfl
theorem attach_call {l:OpenLaw}{n:Nat}{q:Program}{loose:List Str}{XP:(Str->Option Value)->Heap->Prop}{YP:World->Heap->Prop}{d:DefRec}
  (hn:l.most=some n) (hdf:d.params.defaults=[])
  (call:∀(w:World) (s₀ s₁:Shared) (mg mb:Str->Option Value) (fa:Addr) (o:Obj) (pm cd doc:Value) (a:Addr) (vs:List Value) (ns:List Int),
   Ground q loose [] XP w s₀ mg mb s₁.heap->YP w s₁.heap ->
   s₁.heap.get? fa=some o->o.data=.func (docDef d.name d.params d.body d.scope pm cd doc)->s₁.heap.CodeRec cd d.name->mg d.name=some (.ref fa) ->
   s₁.heap.get? a=some { cls:=.type "list",data:=.seq vs.toArray }->IntsAre vs ns->ns.length<=n->s₁.gens = #[] ->
   codeAny (model l.prog w) callerA (.call (.ref fa) ⟨[.ref a],[]⟩) (fun r s'=>r=.ok (.ret (.bool true))/\OldK s₁.heap s'.heap/\s'.os=s₁.os/\AllBare s'.gens) s₁) :
  WalkO q loose XP YP l.row.toRowW d [] (fun f vs=>PySem.call f vs):=by
 intro w s₀ s₁ mg mb G Y fa o pm cd doc dV kV ho hd hcd hD hmg hg args vals as hpre hlay hrd hwl hlo
 obtain rfl:dV=.none:=Dflts.none hD hdf
 obtain rfl:kV=.none:=Dflts.noKw hD
 obtain ⟨a,vs,ns,rfl,rfl,hobj,hints,hlen⟩:=script_of hn hpre hwl
 refine enter_call (codeAny_mono (call w s₀ s₁ mg mb fa o pm cd doc a vs ns G Y ho (fd_plain hd) hcd hmg hobj hints hlen hg) fun r s' hq=>?_)
 obtain ⟨rfl,h2,h3,h4⟩:=hq
 exact ⟨.inl ⟨.bool true,.bool true,[],rfl,fun _=>rfl,.bool true,post_true l _,fun _=>⟨List.Pairwise.nil,fun _ hm=>(nomatch hm)⟩⟩,h2,h3,h4⟩
section
variable {prog:Program}{w:World}{A:Around}{E:Value->Shared->Prop}{s:Shared}{K:Frag}
end
end Att
namespace L2
open PySem PySem.Spec PyProof.Rows
theorem vals_ints:∀{vs:List Value}{ns:List Int},IntsAre vs ns->Vals (ns.map V.int) vs
 | _,_,.nil=>.nil
 | _,_,.cons n t h=>.cons ⟨t,rfl⟩ (vals_ints h)
end L2
namespace L2
open PySem PySem.Spec PyProof.Rows
end L2
namespace L2
open PySem PySem.Spec PyProof.Rows
def inClass (s:Stmt) (j:Nat):Stmt:=match s with
 | .ClassDef _ _ _ body _ _ _ _ _ _ _=>body.getD j (.Pass ⟨0,0,0,0⟩)
 | _=>.Pass ⟨0,0,0,0⟩
def defArgs (s:Stmt):Arguments:=match s with
 | .FunctionDef _ a _ _ _ _ _ _ _ _=>a
 | _=>{ posonlyargs:=[],args:=[],vararg:=none,kwonlyargs:=[],kw_defaults:=[],kwarg:=none,defaults:=[] }
def defBody (s:Stmt):List Stmt:=match s with
 | .FunctionDef _ _ b _ _ _ _ _ _ _=>b
 | _=>[]
def defScope (s:Stmt):Scope:=match s with
 | .FunctionDef _ _ _ _ _ _ sc _ _ _=>sc
 | _=>{ kind:=.function,names:=[],isGenerator:=false,isCoroutine:=false }
abbrev CX0:CXT:=fun _ _ _ _ _ _=>False
abbrev E0:XK:=fun _ _ _=>False
structure Fun (K:PySem.W.Frag) (x qual:Str) (st:Stmt) (f:Addr) (fd:FuncData):Prop where
 ex:∃(oc:Value) (od:Option Addr) (kV doc pm:Value) (an:Option Addr) (cdv ct:Value) (osl:Array (Option Value)),
  fd=PySem.W.fnOf x qual (defArgs st) (defBody st) (defScope st) .none kV doc pm an cdv ct/\K.lookup f=some ⟨oc,od,.func fd,osl⟩/\PySem.W.codeIn K cdv qual=true
 kp:PySem.W.keepIn K (.ref f)=true
section
variable {P:Program}{w:World}{K:PySem.W.Frag}{mg:Str->Option Value}{base:Heap}
theorem Fun.ok {x qual:Str}{st:Stmt}{f:Addr}{fd:FuncData}{N ps:List Str}{k:Nat}{sp:Sp}(F:Fun K x qual st f fd) (S:FnScope N ps (defScope st)) (len:∀ vs H Q E,sp vs H Q E->vs.length=ps.length)
  (hbody:∀(cdv:Value) (A:Around) (outer:List Env) (s:Shared) (H:Hp) (vs:List V) (Q:VK) (E:XK),Room k (A.deeper (envOfC qual (defScope st) s.heap.objs.size f cdv))->sp vs H Q E ->
   ∃ t,PSs (cxOf CX0 P w K mg base N qual (defScope st) f cdv A outer s H E).nox (defBody st) t/\t { nx:=fun _ H'=>Q .non H',rt:=Q } (start N vs) H):FnOk P w K mg base CX0 (k + 1) f fd ps sp:=by
 obtain ⟨oc,od,kV,doc,pm,an,cdv,ct,osl,rfl,lk,hcd⟩:=F.ex
 refine fn_of lk hcd S len fun A outer s H vs Q E hr hsp=>?_
 obtain ⟨t,h,q⟩:=hbody cdv A outer s H vs Q E hr hsp
 exact ⟨t,h.nox,q⟩
theorem Fun.binds {x qual:Str}{st:Stmt}{f:Addr}{fd:FuncData}{ps:List Str}(F:Fun K x qual st f fd)
  (h:∀(kV doc pm:Value) (an:Option Addr) (cdv ct:Value) (us:List Value),us.length=ps.length->bindArgs (PySem.W.fnOf x qual (defArgs st) (defBody st) (defScope st) .none kV doc pm an cdv ct) ⟨us,[]⟩=pure (ps.zip us)):Binds K fd ps []:=by
 obtain ⟨oc,od,kV,doc,pm,an,cdv,ct,osl,rfl,lk,hcd⟩:=F.ex
 exact .all (h kV doc pm an cdv ct)
theorem fun_mk {x qual:Str}{st:Stmt}{f:Addr}{oc:Value}{od an:Option Addr}{osl:Array (Option Value)}{kV doc pm cdv ct:Value}(l:K.lookup f=some ⟨oc,od,.func (PySem.W.fnOf x qual (defArgs st) (defBody st) (defScope st) .none kV doc pm an cdv ct),osl⟩)
  (c:PySem.W.codeIn K cdv qual=true) (k:PySem.W.keepIn K (.ref f)=true):Fun K x qual st f (PySem.W.fnOf x qual (defArgs st) (defBody st) (defScope st) .none kV doc pm an cdv ct):=⟨⟨oc,od,kV,doc,pm,an,cdv,ct,osl,rfl,l,c⟩,k⟩
end
theorem small1000 {n:Nat}(h:n<=1000):n < sizeLine:=Nat.lt_of_le_of_lt h (by decide)
section
variable {X:Cx}
theorem pv (i:Nat) {x:Str}{pos:Pos}(hN:X.N[i]? = some x:=by rfl) (hv:Vis X.env.scope x:=by first | exact Or.inl rfl | exact Or.inr (Or.inl rfl) | exact Or.inr (Or.inr rfl)) (hd:(x == ("__debug__" : Str))=false:=by decide)
  (hcd:(x == ("__classdict__" : Str))=false:=by decide):PE X (.Name x pos) (tVar i):=pe_var hN hv hd hcd
end
theorem iteF {A B:Prop}(h:B):if false=true then A else B:=by
 rw [if_neg Bool.false_ne_true]
 exact h
theorem iteT {A B:Prop}(h:A):if true=true then A else B:=by
 rw [if_pos rfl]
 exact h
theorem ite2 {c A B:Prop} [Decidable c] (h1:c->A) (h2:¬ c->B):if c then A else B:=by
 by_cases h:c
 ·rw [if_pos h]
  exact h1 h
 ·rw [if_neg h]
  exact h2 h
def Same (H H':Hp):Prop:=∀ b o,H b=some o->H' b=some o
theorem Same.refl (H:Hp):Same H H:=fun _ _ h=>h
theorem Same.trans {H H1 H2:Hp}(a:Same H H1) (b:Same H1 H2):Same H H2:=fun c o h=>b c o (a c o h)
theorem Same.free {H H':Hp}(e:Same H H') {l:Addr}(h:H' l=Option.none):H l=Option.none:=by
 cases q:H l with
 | none=>rfl
 | some o =>
  rw [e l o q] at h
  cases h
theorem Same.seq {K:PySem.W.Frag}{H H':Hp}{a:Addr}{xs:List V}(e:Same H H') (h:SqL K H a xs):SqL K H' a xs:=by
 rcases h with (h | ⟨o,h⟩) | h
 ·exact .inl (.inl (e _ _ h))
 ·exact .inl (.inr ⟨o,e _ _ h⟩)
 ·exact .inr h
section
variable {κ:Type} [DecidableEq κ]
theorem valV_not {kvs:List (κ×V)}{k:κ}(h:valV kvs k=none):¬ k∈kvs.map (·.1):=by
 intro m
 obtain ⟨p,hp,e⟩:=List.mem_map.mp m
 have q:(kvs.any fun kv=>decide (kv.1=k))=true:=List.any_eq_true.mpr ⟨p,hp,decide_eq_true e⟩
 rw [valV_any,h] at q
 exact absurd q (by simp)
theorem valV_in {kvs:List (κ×V)}{k:κ}{v:V}(h:valV kvs k=some v):k∈kvs.map (·.1):=by
 have q:(kvs.any fun kv=>decide (kv.1=k))=true:=by
  rw [valV_any,h]
  all_goals rfl
 obtain ⟨p,hp,e⟩:=List.any_eq_true.mp q
 exact List.mem_map.mpr ⟨p,hp,of_decide_eq_true e⟩
end
end L2
namespace L2
open PySem PySem.Spec PyProof.Rows
def clGo (env:Env):List (Str×NameKind)->List (Str×Addr)->List (Str×Addr)
 | [],cs=>cs
 | (n,k) :: r,cs=>clGo env r (if k=NameKind.free then (n,(env.cells.lookup n).getD 0) :: cs else cs)
def clOf (scope:Scope) (env:Env):List (Str×Addr):=clGo env scope.names []
def freeOk (scope:Scope) (env:Env):Bool:=scope.names.all fun p=>p.2 != NameKind.free || (env.kindOf p.1 == some NameKind.cell || env.kindOf p.1 == some NameKind.free)
theorem clGo_run {env:Env}:∀(l:List (Str×NameKind)) (cs:List (Str×Addr)),(∀ p∈l,p.2=NameKind.free->∃ c,env.cells.lookup p.1=some c) ->
  (forIn l cs fun (x:Str×NameKind) (r:List (Str×Addr)) =>
   (if (x.2 == NameKind.free)=true then (do let c <- cellOf env x.1; pure (ForInStep.yield ((x.1,c) :: r))) else pure (ForInStep.yield r):Sem (ForInStep (List (Str×Addr)))))=pure (clGo env l cs)
 | [],cs,_=>rfl
 | (n,k) :: r,cs,h=>by
  rw [List.forIn_cons]
  by_cases e:k=NameKind.free
  ·subst e
   obtain ⟨c,hc⟩:=h (n,.free) List.mem_cons_self rfl
   have hc':env.cells.lookup n=some c:=hc
   have q:cellOf env n=pure c:=by unfold cellOf; rw [hc']
   simp only [beq_self_eq_true,if_true,q,pure_bind]
   rw [clGo_run r _ fun p hp=>h p (List.mem_cons_of_mem _ hp)]
   simp [clGo,hc']
  ·have e':(k == NameKind.free)=false:=by simpa using e
   simp only [e',Bool.false_eq_true,if_false,pure_bind]
   rw [clGo_run r _ fun p hp=>h p (List.mem_cons_of_mem _ hp)]
   simp [clGo,e]
theorem closure_run {scope:Scope}{env:Env}(h:∀ p∈scope.names,p.2=NameKind.free->∃ c,env.cells.lookup p.1=some c):closureFor scope env=pure (clOf scope env):=by
 have q:=clGo_run (env:=env) scope.names [] h
 have e:closureFor scope env=((forIn scope.names [] fun (x:Str×NameKind) (r:List (Str×Addr)) =>
   (if (x.2 == NameKind.free)=true then (do let c <- cellOf env x.1; pure (ForInStep.yield ((x.1,c) :: r))) else pure (ForInStep.yield r):Sem (ForInStep (List (Str×Addr))))) >>= fun cs=>pure cs):=rfl
 rw [e,q,pure_bind]
 rfl
theorem clGo_look {env:Env}{x:Str}{c:Addr}(hc:env.cells.lookup x=some c):∀(l:List (Str×NameKind)) (cs:List (Str×Addr)),
  ((x,NameKind.free)∈l∨cs.lookup x=some c)->(clGo env l cs).lookup x=some c
 | [],cs,h=>by
  rcases h with h | h
  ·exact absurd h (by simp)
  ·exact h
 | (n,k) :: r,cs,h=>by
  show (clGo env r _).lookup x=some c
  refine clGo_look hc r _ ?_
  rcases h with h | h
  ·rcases List.mem_cons.mp h with e | e
   ·cases e
    refine .inr ?_
    rw [if_pos rfl,List.lookup_cons,hc]
    simp
   ·exact .inl e
  ·refine .inr ?_
   by_cases e:k=NameKind.free
   ·rw [if_pos e,List.lookup_cons]
    by_cases en:x=n
    ·subst en; simp [hc]
    ·have:(x == n)=false:=by simpa using en
     rw [this]; exact h
   ·rw [if_neg e]; exact h
theorem clGo_from {env:Env}{x:Str}{c:Addr}:∀(l:List (Str×NameKind)) (cs:List (Str×Addr)),
  (∀ p∈l,p.2=NameKind.free->∃ c,env.cells.lookup p.1=some c)->(clGo env l cs).lookup x=some c->env.cells.lookup x=some c/\(x,NameKind.free)∈l∨cs.lookup x=some c
 | [],cs,_,h=>.inr h
 | (n,k) :: r,cs,hl,h=>by
  have h:(clGo env r (if k=NameKind.free then (n,(env.cells.lookup n).getD 0) :: cs else cs)).lookup x=some c:=h
  rcases clGo_from r _ (fun p hp=>hl p (List.mem_cons_of_mem _ hp)) h with ⟨a,b⟩ | q
  ·exact .inl ⟨a,List.mem_cons_of_mem _ b⟩
  ·by_cases e:k=NameKind.free
   ·rw [if_pos e,List.lookup_cons] at q
    by_cases en:x=n
    ·subst en
     subst e
     obtain ⟨c',hc'⟩:=hl (x,.free) List.mem_cons_self rfl
     have hc':env.cells.lookup x=some c':=hc'
     rw [hc'] at q
     simp at q
     subst q
     exact .inl ⟨hc',List.mem_cons_self⟩
    ·have:(x == n)=false:=by simpa using en
     rw [this] at q
     exact .inr q
   ·rw [if_neg e] at q
    exact .inr q
theorem freeOk_mem {scope:Scope}{env:Env}(h:freeOk scope env=true) {p:Str×NameKind}(hp:p∈scope.names) (hf:p.2=NameKind.free):env.kindOf p.1=some NameKind.cell∨env.kindOf p.1=some NameKind.free:=by
 have q:=List.all_eq_true.mp h p hp
 rw [hf] at q
 simpa using q
def cxC (X:Cx) (scope:Scope) (N':List Str) (s:Shared) (H:Hp) (C:Addr) (fp:List Addr):Cx :=
 { X with N:=N',s₀:=s,H₀:=H,env:=compEnvC scope (clOf scope X.env) C X.env,outer:=X.stack,ex:=fp,fn:=fun _=>false,pn:=[],xe:=fun _ _=>False }
def seeσ (fm:List (Option Nat)) (σ:St):St:=fm.map fun o=>o.bind fun i=>(σ[i]?).join
structure CompSc (X:Cx) (scope:Scope) (N':List Str) (fm:List (Option Nat)):Prop where
 kind:scope.kind=.function
 cell:∀ y∈scope.names,y.2≠.cell
 names:∀ y∈scope.names,y.2=.local->scope.names.lookup y.1=some .local
 free:freeOk scope X.env=true
 len:N'.length=fm.length
 map:((N'.zip fm).all fun p=>match p.2 with | none=>true | some i=>(X.N[i]? == some p.1) && (scope.names.lookup p.1 == some NameKind.free))=true
theorem lookup_relabel {env:Env}{k:NameKind}{x:Str}:∀{names:List (Str×NameKind)},(names.map fun (n,k)=>if (k == NameKind.free && env.scope.kind == .function && env.kindOf n == some .cell) then (n,NameKind.cell) else (n,k)).lookup x=some k ->
  names.lookup x=some k∨(names.lookup x=some NameKind.free/\k=NameKind.cell)
 | [],h=>by simp at h
 | (n,j) :: r,h=>by
  have ih:=@lookup_relabel env k x r
  have h:List.lookup x ((if (j == NameKind.free && env.scope.kind == .function && env.kindOf n == some .cell)=true then (n,NameKind.cell) else (n,j)) :: (r.map fun (n,k)=>if (k == NameKind.free && env.scope.kind == .function && env.kindOf n == some .cell) then (n,NameKind.cell) else (n,k)))=some k:=h
  by_cases hc:(j == NameKind.free && env.scope.kind == .function && env.kindOf n == some .cell)=true
  ·rw [if_pos hc,List.lookup_cons] at h
   rw [List.lookup_cons]
   cases hx:x == n with
   | true =>
    rw [hx] at h
    simp at h
    refine .inr ⟨?_,h.symm⟩
    have:(j == NameKind.free)=true:=by
     simp only [Bool.and_eq_true] at hc
     exact hc.1.1
    have e:j=NameKind.free:=by simpa using this
    rw [e]
   | false =>
    rw [hx] at h
    exact ih h
  ·rw [if_neg hc,List.lookup_cons] at h
   rw [List.lookup_cons]
   cases hx:x == n with
   | true=>rw [hx] at h; exact .inl h
   | false=>rw [hx] at h; exact ih h
theorem relabel_free {env:Env}{x:Str}:∀{names:List (Str×NameKind)},names.lookup x=some NameKind.free ->
  (names.map fun (n,k)=>if (k == NameKind.free && env.scope.kind == .function && env.kindOf n == some .cell) then (n,NameKind.cell) else (n,k)).lookup x=some .cell ∨
  (names.map fun (n,k)=>if (k == NameKind.free && env.scope.kind == .function && env.kindOf n == some .cell) then (n,NameKind.cell) else (n,k)).lookup x=some .free
 | [],h=>by simp at h
 | (n,j) :: r,h=>by
  have ih:=@relabel_free env x r
  show List.lookup x ((if (j == NameKind.free && env.scope.kind == .function && env.kindOf n == some .cell)=true then (n,NameKind.cell) else (n,j)) :: _)=_∨List.lookup x ((if (j == NameKind.free && env.scope.kind == .function && env.kindOf n == some .cell)=true then (n,NameKind.cell) else (n,j)) :: _)=_
  rw [List.lookup_cons] at h
  cases hx:x == n with
  | true =>
   rw [hx] at h
   have e:j=NameKind.free:=by simpa using h
   by_cases hc:(j == NameKind.free && env.scope.kind == .function && env.kindOf n == some .cell)=true
   ·rw [if_pos hc]; exact .inl (by rw [List.lookup_cons,hx])
   ·rw [if_neg hc]; exact .inr (by rw [List.lookup_cons,hx,e])
  | false =>
   rw [hx] at h
   by_cases hc:(j == NameKind.free && env.scope.kind == .function && env.kindOf n == some .cell)=true
   ·rw [if_pos hc,List.lookup_cons,hx]; exact ih h
   ·rw [if_neg hc,List.lookup_cons,hx]; exact ih h
theorem mem_of_look {α:Type}{x:Str}{k:α}:∀{l:List (Str×α)},l.lookup x=some k->(x,k)∈l:=fun h=>PySem.mem_of_lookup h
section
variable {X:Cx}{pins:List (Addr×Obj)}{σ:St}{H H':Hp}{s:Shared}{scope:Scope}{N':List Str}{fm:List (Option Nat)}{fp:List Addr}{h':Heap}{tk:Nat}
theorem CompSc.cells (S:CompSc X scope N' fm) (I:Inv X pins σ H s):∀ p∈scope.names,p.2=NameKind.free->∃ c,X.env.cells.lookup p.1=some c:=fun p hp hf=>I.ok.has p.1 (freeOk_mem S.free hp hf)
theorem CompSc.look (S:CompSc X scope N' fm) (I:Inv X pins σ H s) {x:Str}{c:Addr}(h:(clOf scope X.env).lookup x=some c):X.env.cells.lookup x=some c/\(x,NameKind.free)∈scope.names:=by
 rcases clGo_from scope.names [] (S.cells I) h with q | q
 ·exact q
 ·simp at q
theorem comp_start (S:CompSc X scope N' fm) (I:Inv X pins σ H s) (hf:∀ b∈fp,FpOk X pins H b) (hfs:∀ b∈fp,b < s.heap.objs.size)
  (hn:h'.Ns s.heap.objs.size fun _=>none) (hk:∀ b o,s.heap.get? b=some o->h'.get? b=some o):Inv (cxC X scope N' s H s.heap.objs.size fp) [] (seeσ fm σ) H { s with heap:=h',toks:=tk }:=by
 have cl:∀{x c},(clOf scope X.env).lookup x=some c->X.env.cells.lookup x=some c/\(x,NameKind.free)∈scope.names:=fun h=>S.look I h
 have ltc:∀ x c,X.env.cells.lookup x=some c->c < s.heap.objs.size:=fun x c e=>by
  obtain ⟨v,q⟩:=I.cell x c e
  exact q.lt
 refine ⟨⟨I.ok.mod,?_,I.ok.glob,I.ok.blt,Nat.le_refl _,fun x y c h1 h2=>I.ok.inj x y c (cl h1).1 (cl h2).1,fun x hx=>?_,fun x c h _=>absurd (show false=true from h) (by decide),I.ok.hd,I.ok.frames,.inl rfl,fun b hb=>⟨Nat.ne_of_lt (hfs b hb),fun x c e z=>?_⟩,I.bs,Nat.le_trans I.ok.bsz I.sz,fun b o e hb=>?_,fun b hb z=>?_,I.stack,I.stkFree⟩,
  rfl,I.bare,Un.kept hk,⟨_,hn,fun i x v e1 e2 e3=>?_⟩,fun x c e=>?_,I.hok.fresh (Nat.le_refl _),fun x c e=>I.freeC x c (cl e).1,fun p hp=>absurd (show p∈([]:List (Addr×Obj)) from hp) (by simp),I.hok.kept hk,?_⟩
 ·exact S.kind
 ·-- a cell for each name
  have hx:(relabel scope X.env).names.lookup x=some .cell∨(relabel scope X.env).names.lookup x=some .free:=hx
  have fr:scope.names.lookup x=some .free:=by
   rcases hx with hx | hx
   ·rcases lookup_relabel hx with q | q
    ·exact absurd rfl (S.cell _ (mem_of_look q))
    ·exact q.1
   ·rcases lookup_relabel hx with q | q
    ·exact q
    ·exact q.1
  have m:=mem_of_look fr
  obtain ⟨c,hc⟩:=S.cells I (x,.free) m rfl
  exact ⟨c,clGo_look hc _ _ (.inl m)⟩
 ·exact (hf b hb).2.2.2.2.1 x c (cl e).1 z
 ·rcases (hf b hb).2.2.2.1 with z | z
  ·exact I.ok.noex b o e z
  ·exact absurd (Nat.lt_of_lt_of_le (Heap.lt_size (I.ok.bs b o e).1) z) (Nat.lt_irrefl _)
 ·rcases List.mem_cons.mp (I.stkSub b z) with q | q
  ·exact (hf b hb).2.1 q
  ·exact (hf b hb).2.2.1 q
 ·-- a name of the def,seen in the block
  have e1:N'[i]? = some x:=e1
  have il:i < fm.length:=by rw [<- S.len]; exact (List.getElem?_eq_some_iff.mp e1).1
  have ef:fm[i]? = some fm[i]:=by simp [il]
  unfold seeσ at e2
  rw [List.getElem?_map,ef] at e2
  cases q:fm[i] with
  | none=>rw [q] at e2; simp at e2
  | some j =>
   rw [q] at e2 ef
   have e2:(σ[j]?).join=some v:=by simpa using e2
   have e2':σ[j]? = some (some v):=by
    cases z:σ[j]? with
    | none=>rw [z] at e2; simp at e2
    | some w=>rw [z] at e2; simp at e2; rw [e2]
   have mz:(x,some j)∈N'.zip fm:=by
    have:(N'.zip fm)[i]? = some (x,some j):=by rw [List.getElem?_zip_eq_some]; exact ⟨e1,ef⟩
    exact List.mem_of_getElem? this
   have ok:=List.all_eq_true.mp S.map _ mz
   simp only [Bool.and_eq_true,beq_iff_eq] at ok
   have kx:=freeOk_mem S.free (mem_of_look ok.2) rfl
   obtain ⟨m,hm,hl⟩:=I.loc
   obtain ⟨u,ru,lk⟩:=hl j x v ok.1 e2' (by rcases kx with k | k; exact .inr (.inl k); exact .inr (.inr k))
   refine ⟨u,ru,.inr ?_⟩
   rcases lk with ⟨k,_⟩ | ⟨_,c,hc,⟨o,ho,hd⟩⟩
   ·rcases kx with z | z
    ·rw [z] at k; cases k
    ·rw [z] at k; cases k
   ·exact ⟨relabel_free ok.2,c,clGo_look hc _ _ (.inl (mem_of_look ok.2)),o,hk _ _ ho,hd⟩
 ·obtain ⟨v,o,ho,hd⟩:=I.cell x c (cl e).1
  exact ⟨v,o,hk _ _ ho,hd⟩
 ·show (seeσ fm σ).length=N'.length
  unfold seeσ
  rw [List.length_map,S.len]
theorem comp_back {σ':St}{s1 s2:Shared}{p1:List (Addr×Obj)}(I:Inv X pins σ H s) (hf:∀ b∈fp,FpOk X pins H b) (J:Inv (cxC X scope N' s H s.heap.objs.size fp) p1 σ' H' s1) (hs:s2.os=s1.os) (hg:AllBare s2.gens)
  (hh:Heap.SameBut s.heap.objs.size s1.heap s2.heap):Inv X pins σ H' s2:=by
 have un:Un (frs X.stack) fp H H' s.heap s1.heap:=J.base
 have hne:∀ b o,s.heap.get? b=some o->b≠s.heap.objs.size:=fun b o e=>Nat.ne_of_lt (Heap.lt_size e)
 have free':H' s.heap.objs.size=none:=J.free
 refine I.call' (ch:=fp) (hs.trans J.os) ⟨fun b o e n hb hx=>?_,fun b o e n hb hx=>?_,un.free,fun b o e hx=>?_,un.tups,un.frzs,un.tbls⟩ (fun b o e=>?_) hg fun b hb=>?_
 ·exact (hh.2 b (hne b o e)).trans (un.keep b o e n hb hx)
 ·obtain ⟨sl,q⟩:=un.slot b o e n hb hx
  exact ⟨sl,(hh.2 b (hne b o e)).trans q⟩
 ·obtain ⟨o',q⟩:=un.there b o e hx
  exact ⟨o',(hh.2 b (hne b o e)).trans q⟩
 ·refine (J.hok b o e).stay (fun c v hc q=>(hh.2 c ?_).trans q) (fun _ q=>q) fun _ _ q=>q
  rintro rfl
  rcases hc with z | z
  ·rw [<- z,free'] at e; cases e
  ·rw [free'] at z; cases z
 ·obtain ⟨_,f1,_,f3,f4,f5⟩:=hf b hb
  exact ⟨f3,f1,f4,f5⟩
end
end L2
namespace L2
open PySem PySem.Spec PyProof.Rows
def PIfs (X:Cx) (ifs:List Expr) (t:TT):Prop :=
 ∀(pins:List (Addr×Obj)) (s:Shared) (σ:St) (H:Hp) (Q:Bool->Hp->Prop),Inv X pins σ H s->t σ H Q ->
  wpAny (model X.prog X.w) X.A (forIn ifs true fun c r=>if r=true then do let ok <- isTrue c X.env (eval c X.env); pure (ForInStep.yield ok) else pure (ForInStep.yield r)) (TP X pins σ Q) X.xe s
def tAll:TT:=fun _ H Q=>Q true H
theorem pif_nil {X:Cx}:PIfs X [] tAll:=fun _ _ _ H _ I h=>wpAny_tests_nil ⟨H,I,h⟩
theorem pif_one {X:Cx}{c:Expr}{t:TT}(h:PT X c t):PIfs X [c] t:=fun pins s σ H Q I q=>wpAny_tests_one (h pins s σ H Q I q)
def tBlk (J:It) (p:Addr) (g:TG) (tt:TT) (te:TE) (σ0:St) (H0:Hp) (Q:Hp->Prop):Prop :=
 ∃ W:Nat->Nat->St->Hp->Prop,(∃ m,W 0 m σ0 H0)/\∀ i m σ H,W i m σ H ->
  (J.stop i H/\Q H)∨(J.go i H/\∃ N:St->Hp->Prop,(∀ σ' H',N σ' H'->∃ m',m' < m/\W (i + 1) m' σ' H')/\∀ x H1,J.yld i H x H1->g x σ H1 fun σ2 H2=>tt σ2 H2 fun b H3 =>
   if b=true then te σ2 H3 fun v H4=>∃ ys,H4 p=some (.lst ys)/\ys.length < sizeLine/\N σ2 (upd H4 p (.lst (ys ++ [v])))
   else N σ2 H3)
def tComp (fm:List (Option Nat)) (wi:TI) (g:TG) (tt:TT) (te:TE):TE:=fun σ H Q=>wi σ H fun J H1=>∀ p,H1 p=none ->
 tBlk J p g tt te (seeσ fm σ) (upd H1 p (.lst [])) fun H2=>Q (.ref p) H2
def sComp (fm:List (Option Nat)) (wi:TI) (g:TG) (tt:TT) (te:TE) (i:Nat):TS:=fun D σ H=>wi σ H fun J H1=>∀ p,H1 p=none ->
 tBlk J p g tt te (seeσ fm σ) (upd H1 p (.lst [])) fun H2=>D.nx (σ.set i (some (.ref p))) H2
section
variable {X:Cx}{elt iter tg:Expr}{ifs:List Expr}{scope:Scope}{pos:Pos}{N':List Str}{fm:List (Option Nat)}{wi:TI}{g:TG}{tt:TT}{te:TE}
theorem comp_loop {R:Result->Shared->Prop}{pins:List (Addr×Obj)}{σ:St}{H:Hp}{s s1:Shared}{it p C:Addr}{fp:List Addr}{tn:Nat->Heap->Prop}{J:It}{Q:Hp->Prop}{H0:Hp}{σ0:St}
  (hc:X.calm=true) (hg:PG (cxC X scope N' s H C fp) tg g) (ht:PIfs (cxC X scope N' s H C fp) ifs tt) (he:PE (cxC X scope N' s H C fp) elt te)
  (T:Turn X.prog X.w X.K tg J fp it tn) (hfp:∀{H':Hp},(∀ b∈fp,H' b=none)->∀ b∈fp,FpOk (cxC X scope N' s H C fp) [] H' b)
  (I:Inv (cxC X scope N' s H C fp) [] σ0 H0 s1) (st:tn 0 s1.heap) (hfr:∀ b∈fp,H0 b=none) (blk:tBlk J p g tt te σ0 H0 Q)
  (hR:∀ σ' H' s',Inv (cxC X scope N' s H C fp) [] σ' H' s'->Q H'->R (.ok .next) s') :
  codeAny (model X.prog X.w) X.A (.compLoop (.ListComp elt [⟨tg,iter,ifs,0⟩] scope pos) 0 (.ref it) (.ref p) (compEnvC scope (clOf scope X.env) C X.env)) R s1:=by
 obtain ⟨W,⟨m0,w0⟩,turn⟩:=blk
 refine codeAny_loop rfl (fun n s'=>∃ i σ' H',Inv (cxC X scope N' s H C fp) [] σ' H' s'/\tn i s'.heap/\(∀ b∈fp,H' b=none)/\W i n σ' H') (fun n s2 hI=>?_) m0 ⟨0,σ0,H0,I,st,hfr,w0⟩
 obtain ⟨i,σ2,H2,I2,st2,fr2,w2⟩:=hI
 show wpAny _ X.A ((compTurn (.ListComp elt [⟨tg,iter,ifs,0⟩] scope pos) 0 (.ref it) (.ref p) (compEnvC scope (clOf scope X.env) C X.env)).onRaise fun x=>do noteFrame x (compEnvC scope (clOf scope X.env) C X.env); theTreesLotGoes x) _ _ s2
 refine wpAny_noted ?_
 rw [compTurn_list]
 have lift:∀{α:Type} {t:Sem α} {Q1 Q2:α->Shared->Prop} {E2:Value->Shared->Prop} {s':Shared},wpAny (model X.prog X.w) X.A t Q1 (fun _ _=>False) s'->(∀ a s'',Q1 a s''->Q2 a s'')->wpAny (model X.prog X.w) X.A t Q2 E2 s' :=
  fun h k=>wpAny_mono h k fun _ _ z=>z.elim
 rcases turn i n σ2 H2 w2 with ⟨stop,qn⟩ | ⟨go,N,hN,step⟩
 ·refine wpAny_bind (wpAny_standAt (wpAny_bind (lift (T.done (cxC X scope N' s H C fp) rfl rfl rfl hc i [] s2 σ2 H2 _ I2 (hfp fr2) st2 stop) fun r s3 q=>?_)))
  obtain ⟨hr,I3⟩:=q
  subst hr
  exact wpAny_pure (hR σ2 H2 s3 I3 qn)
 ·refine wpAny_bind (wpAny_standAt (wpAny_bind (lift (T.item (cxC X scope N' s H C fp) rfl rfl rfl hc i [] s2 σ2 H2 _ I2 (hfp fr2) st2 go) fun r s3 q=>?_)))
  obtain ⟨u,hr,h3⟩:=q
  subst hr
  refine wpAny_bind (lift h3 fun _ s4 q4=>?_)
  obtain ⟨x,H4,I4,r4,y4,st4,fr4⟩:=q4
  have I4':=I4.pinned (hfp fr4) (T.obj _ _ st4)
  refine wpAny_bind (lift (hg _ s4 σ2 H4 x u _ I4' r4 (step x H4 y4)) fun _ s5 q5=>?_)
  obtain ⟨σ5,H5,I5,q5⟩:=q5
  refine wpAny_bind (lift (ht _ s5 σ5 H5 _ I5 q5) fun b s6 q6=>?_)
  obtain ⟨H6,I6,q6⟩:=q6
  have again:∀{σ7:St} {H7:Hp} {s7:Shared} {m':Nat},Inv (cxC X scope N' s H C fp) ([] ++ pinsAt fp s4.heap) σ7 H7 s7->W (i + 1) m' σ7 H7 ->
    ∃ i σ' H',Inv (cxC X scope N' s H C fp) [] σ' H' s7/\tn i s7.heap/\(∀ b∈fp,H' b=none)/\W i m' σ' H':=fun {σ7 H7 s7 m'} I7 w7=>by
   refine ⟨i + 1,σ7,H7,I7.unpinned,T.keep _ _ _ st4 fun b hb o e=>(I7.pin (b,o) (List.mem_append_right _ (List.mem_append_right _ (mem_pinsAt hb e)))).1,fun b hb=>?_,w7⟩
   obtain ⟨o,e,d⟩:=T.obj _ _ st4 b hb
   exact (I7.pin (b,o) (List.mem_append_right _ (List.mem_append_right _ (mem_pinsAt hb e)))).2.1
  cases b with
  | false =>
   rw [if_neg Bool.false_ne_true] at q6
   obtain ⟨m',hm,w7⟩:=hN _ _ q6
   exact wpAny_pure ⟨rfl,m',hm,again I6 w7⟩
  | true =>
   rw [if_pos rfl] at q6
   refine wpAny_bind (wpAny_bind (lift (he _ s6 σ5 H6 _ I6 q6) fun u s7 q7=>?_))
   obtain ⟨v,H7,I7,r7,ys,hp,hz,n7⟩:=q7
   obtain ⟨m',hm,w7⟩:=hN _ _ n7
   have ap:=mt_append (X:=cxC X scope N' s H C fp) ([] ++ pinsAt fp s4.heap) s7 σ5 H7 (.ref p) [v] (.ref p) [u] (fun _ H8=>W (i + 1) m' σ5 H8) I7 rfl (.cons r7 .nil) ⟨p,ys,v,rfl,rfl,hp,hz,w7⟩
   refine wpAny_bind (lift ap fun _ s8 q8=>?_)
   obtain ⟨_,H8,I8,_,w8⟩:=q8
   exact wpAny_pure (wpAny_pure ⟨rfl,m',hm,again I8 w8⟩)
end
section
variable {K:PySem.W.Frag}{p:Addr}{g:TG}{tt:TT}{te:TE}{σ0:St}{H0:Hp}{Q:Hp->Prop}
def BlkTurn (p:Addr) (g:TG) (tt:TT) (te:TE) (N:St->Hp->Prop) (x:V) (σ:St) (H:Hp):Prop :=
 g x σ H fun σ2 H2=>tt σ2 H2 fun b H3=>if b=true then te σ2 H3 fun v H4=>∃ ys,H4 p=some (.lst ys)/\ys.length < sizeLine/\N σ2 (upd H4 p (.lst (ys ++ [v]))) else N σ2 H3
theorem blk_range {lo:Int}{n:Nat}(Pv:Nat->St->Hp->Prop) (h0:Pv 0 σ0 H0) (hs:∀ i σ H,i < n->Pv i σ H->BlkTurn p g tt te (Pv (i + 1)) (.int (lo + i)) σ H) (hd:∀ σ H,Pv n σ H->Q H):tBlk (Itr lo n) p g tt te σ0 H0 Q:=by
 refine ⟨fun i m σ H=>m=n - i/\i<=n/\Pv i σ H,⟨n,by simp,Nat.zero_le _,h0⟩,?_⟩
 rintro i m σ H ⟨rfl,hi,q⟩
 by_cases hlt:i < n
 ·refine .inr ⟨hlt,Pv (i + 1),fun σ' H' r=>⟨n - (i + 1),by omega,rfl,hlt,r⟩,fun x H' y=>?_⟩
  obtain ⟨e,y⟩:=y
  subst e y
  exact hs i σ _ hlt q
 ·have e:i=n:=by omega
  subst e
  exact .inl ⟨Nat.le_refl _,hd σ H q⟩
theorem blk_list {a:Addr}{xs:List V}(Pv:Nat->St->Hp->Prop) (h0:Pv 0 σ0 H0) (hl:∀ i σ H,i<=xs.length->Pv i σ H->SqL K H a xs) (hs:∀ i x σ H,xs[i]? = some x->Pv i σ H->BlkTurn p g tt te (Pv (i + 1)) x σ H) (hd:∀ σ H,Pv xs.length σ H->Q H) :
  tBlk (Itl K a) p g tt te σ0 H0 Q:=by
 refine ⟨fun i m σ H=>m=xs.length - i/\i<=xs.length/\Pv i σ H,⟨xs.length,by simp,Nat.zero_le _,h0⟩,?_⟩
 rintro i m σ H ⟨rfl,hi,r⟩
 have q:=hl i σ H hi r
 by_cases hlt:i < xs.length
 ·refine .inr ⟨⟨xs,xs[i],q,by simp [hlt]⟩,Pv (i + 1),fun σ' H' r'=>⟨xs.length - (i + 1),by omega,rfl,hlt,r'⟩,fun x H' y=>?_⟩
  obtain ⟨e,y⟩:=y
  subst e
  exact hs i x σ _ (y xs q) r
 ·have e:i=xs.length:=by omega
  subst e
  exact .inl ⟨⟨xs,q,Nat.le_refl _⟩,hd σ H r⟩
end
end L2
namespace L2
open PySem PySem.Spec PyProof.Rows
section
variable {X:Cx}{elt iter tg:Expr}{ifs:List Expr}{scope:Scope}{pos:Pos}{N':List Str}{fm:List (Option Nat)}{wi:TI}{g:TG}{tt:TT}{te:TE}
theorem comp_block {RR:Value->Addr->Result->Shared->Prop}{pins:List (Addr×Obj)}{σ:St}{H:Hp}{s:Shared}{it:Addr}{fp:List Addr}{tn:Nat->Heap->Prop}{J:It}{Q:Addr->Hp->Prop}{E:Value->Shared->Prop}
  (hc:X.calm=true) (S:CompSc X scope N' fm) (hg:∀ s H C fp,PG (cxC X scope N' s H C fp) tg g) (ht:∀ s H C fp,PIfs (cxC X scope N' s H C fp) ifs tt) (he:∀ s H C fp,PE (cxC X scope N' s H C fp) elt te)
  (T:Turn X.prog X.w X.K tg J fp it tn) (I:Inv X pins σ H s) (st:tn 0 s.heap) (hf:∀ b∈fp,FpOk X pins H b)
  (blk:∀ p,H p=none->tBlk J p g tt te (seeσ fm σ) (upd H p (.lst [])) (Q p))
  (hR:∀ p C H' s' (m:Str->Option Value),s'.heap.Ns C m->(∀ h',Heap.SameBut C s'.heap h'->Inv X pins σ H' { s' with heap:=h' })->FpOk X pins H' C->Q p H'->Inv X pins σ H' s'->RR (.ref p) C (.ok .next) s') :
  wpAny (model X.prog X.w) X.A (newList []) (fun acc s₃=>wpAny (model X.prog X.w) X.A (newFunctionEnv scope X.env.globals (clOf scope X.env) [] X.env.qual none .none (some X.env)) (fun cenv s₄ =>
   codeAny (model X.prog X.w) X.A (.compStart (.ListComp elt [⟨tg,iter,ifs,0⟩] scope pos) 0 (.ref it) acc { cenv with scope:=relabel scope X.env }) (RR acc cenv.locals) s₄) E s₃) E s:=by
 have I1:Inv X pins σ (upd H s.heap.objs.size (.lst [])) { s with heap:=s.heap.push { cls:=.type "list",data:=.seq ([]:List Value).toArray } }:=I.lnew (t':=s.toks) .nil (Nat.zero_le _)
 have hb:=blk _ I.fresh
 refine wpAny_newObj_type (wpAny_newFunctionEnv S.cell (by intro y hy; simp at hy) (fun h1 hn1 hs1=>?_) S.kind)
 dsimp only at hn1 hs1 ⊢
 generalize hq:s.heap.push { cls:=.type "list",data:=.seq ([]:List Value).toArray }=h2 at hn1 hs1 I1 ⊢
 have sz:h2.objs.size=s.heap.objs.size + 1:=by rw [<- hq,Heap.size_push]
 have old:∀ b o,h2.get? b=some o->h1.get? b=some o:=fun b o e=>hs1.extBut b o (Nat.ne_of_lt (Heap.lt_size e)) (Heap.get?_push_of_some _ e)
 have old0:∀ b o,s.heap.get? b=some o->h2.get? b=some o:=fun b o e=>hq ▸ Heap.get?_push_of_some _ e
 have lt0:∀ b∈fp,b < s.heap.objs.size:=fun b hb=>by
  obtain ⟨o,e,_⟩:=T.obj _ _ st b hb
  exact Heap.lt_size e
 have hf1:∀ b∈fp,FpOk X pins (upd H s.heap.objs.size (.lst [])) b:=fun b hb=>by
  obtain ⟨f0,f⟩:=hf b hb
  exact ⟨by rw [upd_ne (Nat.ne_of_lt (lt0 b hb))]; exact f0,f⟩
 have lt2:∀ b∈fp,b < h2.objs.size:=fun b hb=>by rw [sz]; exact Nat.lt_succ_of_lt (lt0 b hb)
 have J0:=comp_start (s:={ s with heap:=h2 }) (h':=h1) (tk:=s.toks) (fp:=fp) S I1 hf1 lt2 hn1 old
 have st1:tn 0 h1:=T.keep _ _ _ st fun b _ o e=>old b o (old0 b o e)
 have fpok:∀{H':Hp},(∀ b∈fp,H' b=none)->∀ b∈fp,FpOk (cxC X scope N' { s with heap:=h2 } (upd H s.heap.objs.size (.lst [])) h2.objs.size fp) [] H' b:=fun {H'} hn b hb=>by
  refine ⟨hn b hb,Nat.ne_of_lt (lt2 b hb),fun z=>?_,.inl hb,fun x c e z=>?_,fun p hp=>absurd (show p∈([]:List (Addr×Obj)) from hp) (by simp)⟩
  ·rcases List.mem_cons.mp (I.stkSub b z) with q | q
   ·exact (hf b hb).2.1 q
   ·exact (hf b hb).2.2.1 q
  ·exact (hf b hb).2.2.2.2.1 x c (S.look I e).1 z
 have loop:=comp_loop (iter:=iter) (pos:=pos) (R:=RR (.ref s.heap.objs.size) h2.objs.size) (σ:=σ) (pins:=pins) hc (hg _ _ _ _) (ht _ _ _ _) (he _ _ _ _) T fpok J0 st1 (fun b hb=>(hf1 b hb).1) hb fun σ' H' s' Jv qv=>by
  obtain ⟨m,hm,_⟩:=Jv.loc
  exact hR _ _ H' s' m hm (fun h' sb=>comp_back (s:={ s with heap:=h2 }) I1 hf1 Jv rfl Jv.bare sb) (I1.fpOk (Nat.le_refl _) Jv.free) qv (comp_back (s:={ s with heap:=h2 }) I1 hf1 Jv rfl Jv.bare (Heap.SameBut.refl ..))
 exact codeAny_compStart_list loop (T.self _ 0 _ _ _ st1 loop)
theorem pe_comp (hc:X.calm=true) (S:CompSc X scope N' fm) (hi:PI X tg iter wi) (hg:∀ s H C fp,PG (cxC X scope N' s H C fp) tg g) (ht:∀ s H C fp,PIfs (cxC X scope N' s H C fp) ifs tt)
  (he:∀ s H C fp,PE (cxC X scope N' s H C fp) elt te) (hs:∀ x,foldedSetIterable iter X.env x=pure x:=by intro _; rfl) :
  PE X (.ListComp elt [⟨tg,iter,ifs,0⟩] scope pos) (tComp fm wi g tt te):=by
 intro pins s σ H Q I h
 rw [eval_ListComp]
 refine wpAny_comprehension_free (use:=none) rfl hs (closure_run (S.cells I)) S.kind S.names (thn (hi pins s σ H _ I h) fun v s1 h1=>thn h1 fun itv s2 h2=>?_)
 obtain ⟨it,fp,tn,J,H2,e,I2,T,st2,f2,blk⟩:=h2
 subst e
 refine comp_block (RR:=fun acc C=>compPost (model X.prog X.w) X.A X.xe none (EP X pins σ Q) acc C) (Q:=fun p H'=>Q (.ref p) H') hc S hg ht he T I2 st2 f2 blk ?_
 intro p C H' s' m hm back _ q _
 exact ⟨m,hm,fun h' sb=>⟨.ref p,H',back h' sb,rfl,q⟩⟩
theorem ps_comp {i:Nat}{x:Str}{px spos:Pos}(hc:X.calm=true) (hN:X.N.Nodup) (hx:X.N[i]? = some x) (hl:X.env.kindOf x=some .local) (S:CompSc X scope N' fm) (hi:PI X tg iter wi) (hg:∀ s H C fp,PG (cxC X scope N' s H C fp) tg g)
  (ht:∀ s H C fp,PIfs (cxC X scope N' s H C fp) ifs tt) (he:∀ s H C fp,PE (cxC X scope N' s H C fp) elt te) (hs:∀ x,foldedSetIterable iter X.env x=pure x:=by intro _; rfl)
  (hsw:swapsWith (.ListComp elt [⟨tg,iter,ifs,0⟩] scope pos) (some (.Name x px)) spos.line X.env=pure true:=by rfl) :
  PS X (.Assign [.Name x px] (.ListComp elt [⟨tg,iter,ifs,0⟩] scope pos) spos) (sComp fm wi g tt te i):=by
 intro pins s σ H D I h
 rw [exec_Assign_Name_used _ _ _ _ hsw]
 refine wpAny_bind (wpAny_standAt (wpAny_bind ?_))
 show wpAny _ _ (comprehension (.ListComp elt [⟨tg,iter,ifs,0⟩] scope pos) scope X.env _ (newList []) false (eval iter X.env) (some (assign (.Name x px) X.env)) >>= _) _ _ s
 refine wpAny_bind (thn (wpAny_comprehension_free (use:=some (assign (.Name x px) X.env)) (Q:=fun _ s'=>SP X pins D .next s') rfl hs (closure_run (S.cells I)) S.kind S.names
  (thn (hi pins s σ H _ I h) fun v s1 h1=>thn h1 fun itv s2 h2=>?_)) fun _ s' q=>wpAny_pure (wpAny_pure q))
 obtain ⟨it,fp,tn,J,H2,e,I2,T,st2,f2,blk⟩:=h2
 subst e
 refine comp_block (RR:=fun acc C=>compPost (model X.prog X.w) X.A X.xe (some (assign (.Name x px) X.env)) (fun _ s'=>SP X pins D .next s') acc C) (Q:=fun p H'=>D.nx (σ.set i (some (.ref p))) H') hc S hg ht he T I2 st2 f2 blk ?_
 intro p C H' s' m hm back fC q I'
 obtain ⟨f0,f1,f2,f3,f4,f5⟩:=fC
 show wpAny _ _ (assign (.Name x px) X.env (.ref p)) _ _ s'
 refine wpAny_assign_Name (store_ok2 I' hN hx (.inl hl) (v:=.ref p) rfl (fun s'' I'' ⟨a,sb,ha⟩=>?_) (.inr hl))
 have haC:C≠a:=by
  rcases ha with z | z
  ·rw [z]; exact f1
  ·exact Ne.symm (f4 x a z)
 refine ⟨m,hm.sameBut sb haC,fun h3 sb3=>⟨σ.set i (some (.ref p)),H',I''.turned (t':=s''.toks) (fun b o hb e=>(sb3.2 b hb).trans e) f0 f1 f3 f4 f5,q⟩⟩
end
end L2
namespace L2
open PySem PySem.Spec PySem.W
section
variable {prog:Program}{w:World}{A:Around}{R:Result->Shared->Prop}{h:Heap}{g:Array GenState}{d:Drawn}{t:Nat}{os:OsState}
variable {nm q:Str}{C N f:Addr}{bs bm:List Value}{hdct:Bool}{sn:List Str}{sub:List Value}{ab:Bool}{col:Option Bool}{dd:Option Addr}{k0 k1 k2 k3 k5:Option Value}
abbrev xObj (C tu:Addr):Obj:={ cls:=.ref C,data:=.fields #[.ref tu,.none,.none,.none,.bool false,.none] }
abbrev xTup (us:List Value):Obj:={ cls:=.type "tuple",data:=.seq us.toArray }
structure XBases (bm:List Value):Prop where
 ve:bm.contains (.type "ValueError")=true
 be:bm.contains (.type "BaseException")=true
 ae:bm.contains (.type "AttributeError")=false
 ne:bm.contains (.type "NameError")=false
 ob:bm.contains (.type "object")=true
 rf:∀ self:Value,refuseLoop self "__setattr__" bm=pure ()
theorem x_check (B:XBases bm) {M:Model}{E:Value->Shared->Prop}{us:List Value}{Q:Unit->Shared->Prop}(hC:h.get? C=some (excClassObj nm q C N bs bm hdct sn sub ab col dd k0 k1 k2 k3 k5 "ValueError.__new__"))
  (hq:Q () ⟨h,g,d,t,os⟩):wpAny M A (checkBuiltinCall "ValueError.__new__" ⟨.ref C :: us,[]⟩) Q E ⟨h,g,d,t,os⟩:=by
 have FV:=PySem.F.excBase_ValueError
 have c1:(Value.ref C :: bm).contains (.type "ValueError")=true:=by rw [List.contains_cons,B.ve,Bool.or_true]
 have c2:=FV.noStar
 simp only [checkBuiltinCall,FV.newKind,FV.newSplit,FV.newRow]
 repeat (first | refine wpAny_loadPart_at hC ?_ | (refine wpAny_isSubtype_exc hC ?_; rw [c1]) | refine wpAny_staticBase_exc hC ?_ | refine wpAny_madeBy_exc hC ?_ | (simp only [bne_self_eq_false,Bool.false_eq_true,if_false]) | wp_step)
 exact hq
theorem x_new (B:XBases bm) {us:List Value}(hC:h.get? C=some (excClassObj nm q C N bs bm hdct sn sub ab col dd k0 k1 k2 k3 k5 "ValueError.__new__"))
  (hq:R (.ok (.ret (.ref (h.objs.size + 1)))) ⟨(h.push (xTup us)).push (xObj C h.objs.size),g,d,t,os⟩) (hus:us.length<=sizeLine) :
  codeAny (model prog w) A (.builtin "ValueError.__new__" ⟨.ref C :: us,[]⟩) R ⟨h,g,d,t,os⟩:=by
 have FV:=PySem.F.excBase_ValueError
 have e1:=FV.ends
 have c1:(Value.ref C :: bm).contains (.type "ValueError")=true:=by rw [List.contains_cons,B.ve,Bool.or_true]
 have c2:(Value.ref C :: bm).contains (.type "AttributeError")=false:=by rw [List.contains_cons,B.ae]; rfl
 have c3:(Value.ref C :: bm).contains (.type "NameError")=false:=by rw [List.contains_cons,B.ne]; rfl
 refine codeAny_builtinAt FV.entry ?_
 unfold Builtin.«BaseException.__new__»
 refine PySem.wpAt_bind ?_
 show PySem.wpAt _ _ _ (stack >>= _) _ _ _
 refine PySem.wpAt_bind (PySem.wpAt_stack fun a b=>PySem.wpAt_of_wpAny ?_)
 wp_walk
 refine PySem.wpAt_of_wpAny ?_
 rw [FV.owner]
 repeat (first | with_reducible refine wpAny_madeHere_exc FV.canon hC ?_ | with_reducible refine wpAny_loadPart_at hC ?_ | (with_reducible refine wpAny_isSubtype_exc hC ?_; first | rw [c1] | rw [c2] | rw [c3]) | wp_step)
 show R _ _
 rw [Heap.size_push]
 exact hq
theorem x_make (B:XBases bm) {us:List Value}(hC:h.get? C=some (excClassObj nm q C N bs bm hdct sn sub ab col dd k0 k1 k2 k3 k5 "ValueError.__new__"))
  (hi:Looks (model prog w) h (typeLookup (.ref C) "__init__") (some (.ref f))) (hb:∀ self,Looks (model prog w) h (bindSpecial (.ref f) self) (.ref f,[self])) (hus:us.length<=sizeLine)
  (hq:codeAny (model prog w) (A.under (.builtin "type.__call__" ⟨.ref C :: us,[]⟩)) (.call (.ref f) ⟨.ref (h.objs.size + 1) :: us,[]⟩) (InitBack (h.objs.size + 1) R) ⟨(h.push (xTup us)).push (xObj C h.objs.size),g,d,t,os⟩) :
  codeAny (model prog w) A (.call (.ref C) ⟨us,[]⟩) R ⟨h,g,d,t,os⟩:=by
 have f1:=tc_lookup
 have f2:=tc_bind (.ref C)
 have hT:(⟨h,g,d,t,os⟩:Shared).TypeIs (.ref C) "type" := ⟨_,hC,rfl⟩
 refine codeAny_of_tree ?_
 show wpAny _ _ (callAny (.ref C) _) _ _ _
 repeat (any_goals (first | assumption | with_reducible refine wpAny_loadPart_at hC ?_ | wp_step))
 refine ⟨rfl,?_⟩
 refine codeAny_call_builtin_at (Code.quiet_builtin _ (by decide +kernel)) entry_typeCall (wpAny_check_type_call_sub hC ?_)
 repeat (first | with_reducible refine wpAny_loadPart_at hC ?_ | with_reducible refine wpAny_madeBy_exc hC ?_ | wp_step)
 refine codeAny_call_builtin_code (Code.quiet_builtin _ PySem.F.excBase_ValueError.quiet) (x_check B hC (x_new B hC ?_ hus))
 show wpAny _ _ _ _ _ _
 have k:∀ b o,h.get? b=some o->((h.push (xTup us)).push (xObj C h.objs.size)).get? b=some o:=fun b o e=>Heap.get?_push_of_some _ (Heap.get?_push_of_some _ e)
 have hC1:=k _ _ hC
 have hx:((h.push (xTup us)).push (xObj C h.objs.size)).get? (h.objs.size + 1)=some (xObj C h.objs.size):=by heap_get
 have cC:(Value.ref C :: bm).contains (.ref C)=true:=by simp
 have i1:=hi.keeps k
 have b1:=(hb (.ref (h.objs.size + 1))).keeps k
 have t1:Looks (model prog w) ((h.push (xTup us)).push (xObj C h.objs.size)) (typeOf (.ref (h.objs.size + 1))) (.ref C):=(Looks.ld hx).andThen .now
 unfold isInstance
 repeat (first | with_reducible refine wpAny_loadPart_at hx ?_ | (with_reducible refine wpAny_isSubtype_exc hC1 ?_; rw [cC]) | wp_step)
 show wpAny _ _ (isSubtype (.ref C) (.ref C)) _ _ ⟨(h.push (xTup us)).push (xObj C h.objs.size),g,d,t,os⟩
 refine wpAny_isSubtype_exc hC1 ?_
 rw [cC]
 unfold callSpecial? specialOf
 simp only [Bool.not_true,Bool.false_eq_true,if_false]
 repeat (first | with_reducible refine wpAny_call ?_ | lk)
 refine codeAny_mono hq fun r s' z=>?_
 rcases r with e | (v | _ | _ | _) <;> first | exact z | exact z.elim | skip
 obtain ⟨rfl,z⟩:=z
 exact wpAny_pure (wpAny_pure z)
end
end L2
namespace L2
open PySem PySem.Spec PyProof.Rows
def XData (C:Addr) (dx:Option Addr) (tb:Value) (a0:Addr):Obj:={ cls:=.ref C,dict:=dx,data:=.fields #[.ref a0,tb,.none,.none,.bool false,.none] }
def XO (C:Addr) (dx:Option Addr) (tb:Value) (ea:Addr):HO:=.ext fun h=>∃ a0,h.get? ea=some (XData C dx tb a0)
def TB (fl:Value) (T:Addr):HO:=.ext fun h=>∃ o ts,h.get? T=some o/\o.data=.fields ts/\ts[3]? = some fl
section
variable {P:Program}{w:World}{H:Hp}{h:Heap}{C ea T:Addr}{dx:Option Addr}{tb fl:Value}
theorem XO.mk {a0:Addr}(e:h.get? ea=some (XData C dx tb a0)):ObjOk P w H h ea (XO C dx tb ea):=⟨⟨a0,e⟩,⟨_,e⟩,fun _ _ ⟨a,q⟩ k=>⟨a,k _ q⟩⟩
theorem TB.mk {o:Obj}{ts:Array Value}(e:h.get? T=some o) (d:o.data=.fields ts) (q:ts[3]? = some fl):ObjOk P w H h T (TB fl T):=⟨⟨o,ts,e,d,q⟩,⟨_,e⟩,fun _ _ ⟨o,ts,e,d,q⟩ k=>⟨o,ts,k _ e,d,q⟩⟩
theorem XO.at (ok:HOk P w H h) (e:H ea=some (XO C dx tb ea)):∃ a0,h.get? ea=some (XData C dx tb a0):=(ok ea _ e).1
theorem TB.at (ok:HOk P w H h) (e:H T=some (TB fl T)):∃ o ts,h.get? T=some o/\o.data=.fields ts/\ts[3]? = some fl:=(ok T _ e).1
theorem upd_id {a:Addr}{o:HO}(e:H a=some o):upd H a o=H:=by
 funext b
 unfold upd
 split
 ·rename_i z; subst z; exact e.symm
 ·rfl
end
section
variable {X:Cx}{pins:List (Addr×Obj)}{σ:St}{H:Hp}{s:Shared}{E:Value->Shared->Prop}{C ea T:Addr}{dx:Option Addr}{tb fl:Value}{A:Around}
theorem Inv.xset {i:Nat}{v tb':Value}{a0 a1:Addr}(I:Inv X pins σ H s) (e:H ea=some (XO C dx tb ea)) (q:s.heap.get? ea=some (XData C dx tb a0))
  (hv:(#[.ref a0,tb,.none,.none,.bool false,.none]:Array Value).setIfInBounds i v = #[.ref a1,tb',.none,.none,.bool false,.none]) :
  Inv X pins σ (upd H ea (XO C dx tb' ea)) { s with heap:=s.heap.update ea (Obj.mapFields (·.setIfInBounds i v)) }:=by
 have e1:(s.heap.update ea (Obj.mapFields (·.setIfInBounds i v))).get? ea=some (XData C dx tb' a1):=by
  rw [Heap.get?_update_self _ q rfl]
  show some ({ cls:=.ref C,dict:=dx,data:=.fields ((#[.ref a0,tb,.none,.none,.bool false,.none]:Array Value).setIfInBounds i v) }:Obj)=_
  rw [hv]; rfl
 exact I.write (t':=s.toks) (e:=ea) (by rw [e]; trivial) (.inl rfl) (fun b u hb z=>by rw [Heap.get?_update_other _ _ (Ne.symm hb)]; exact z) ⟨_,e1⟩ (XO.mk e1)
theorem Inv.tset {v:Value}{o:Obj}{ts:Array Value}(I:Inv X pins σ H s) (e:H T=some (TB fl T)) (q:s.heap.get? T=some o) (d:o.data=.fields ts) (h3:3 < ts.size) :
  Inv X pins σ (upd H T (TB v T)) { s with heap:=s.heap.update T (Obj.mapFields (·.setIfInBounds 3 v)) }:=by
 have d':=Obj.data_mapFields d (·.setIfInBounds 3 v)
 have e1:=Heap.get?_update_self (Obj.mapFields (·.setIfInBounds 3 v)) q (Obj.isFreed_of_fields d')
 exact I.write (t':=s.toks) (e:=T) (by rw [e]; trivial) (.inl rfl) (fun b u hb z=>by rw [Heap.get?_update_other _ _ (Ne.symm hb)]; exact z) ⟨_,e1⟩ (TB.mk e1 d' (by simp [h3]))
theorem Inv.slots {h':Heap}(I:Inv X pins σ H s) (hs:Heap.SlotsOnly (frs X.stack) s.heap h'):Inv X pins σ H { s with heap:=h' }:=by
 have un:Un (frs X.stack) [] H H s.heap h':=⟨fun b o e _ hb _=>(hs.2.1 b hb).trans e,fun b o e _ _ _=>hs.2.2 b o e,fun _ _ _ n _=>n,fun b o e _=>let ⟨sl,q⟩:=hs.2.2 b o e; ⟨_,q⟩,fun _ _ q=>q,fun _ _ _ q=>q,fun _ ps q=>⟨#[],by rw [q]; simp⟩⟩
 refine I.call (h':=h') (g':=s.gens) (d':=s.drawn) (t':=s.toks) (ch:=[]) un (fun b o e=>?_) I.bare fun b z=>absurd z (by simp)
 refine (I.hok b o e).stay (fun c u hc q=>(hs.2.1 c fun hb=>?_).trans q) (fun _ q=>q) fun _ _ q=>q
 have n:=I.stkFree c hb
 rcases hc with z | z
 ·rw [<- z,n] at e; cases e
 ·rw [n] at z; cases z
end
end L2
namespace L2
open PySem PySem.Spec PyProof.Rows
section
variable {X:Cx}{pins:List (Addr×Obj)}{σ:St}{H:Hp}{s:Shared}{E:Value->Shared->Prop}{C ea T:Addr}{dx:Option Addr}{tb fl:Value}{A:Around}
def TbOk (H:Hp) (tb:Value):Prop:=tb=.none∨∃ T,tb=.ref T/\H T=some (TB .none T)
def Noted (X:Cx) (pins:List (Addr×Obj)) (σ:St) (H:Hp) (C:Addr) (dx:Option Addr) (ea:Addr) (fl:Value) (s':Shared):Prop :=
 ∃ T,H T=none/\T≠ea/\Inv X pins σ (upd (upd H T (TB fl T)) ea (XO C dx (.ref T) ea)) s'
theorem note_new {head:Value}{b:Bool}{Q:Unit->Shared->Prop}(hfr:X.A.frames=some (X.env :: X.outer)) (hst:X.stack=X.env :: X.outer) (hL:X.env.frame=some X.env.locals) (I:Inv X pins σ H s) (e:H ea=some (XO C dx tb ea))
  (h:∀ s',Noted X pins σ H C dx ea (rawInt X.env.locals) s'->Q () s') :
  wpAny (model X.prog X.w) X.A (do let a <- frameOf X.env; let pl <- entryPlaceOf X.env.locals b; let r <- EntryCells.newEntry head a .none (rawInt X.env.locals) .none pl; setField (.ref ea) 1 r) Q E s:=by
 have hl:=I.stack
 rw [hst] at hl
 refine wpAny_bind (wpAny_frameOf_fun hfr hl hL fun h1 hs1=>?_)
 have I1:=I.slots (h':=h1) (by rw [hst]; exact hs1)
 refine wpAny_bind (wpAny_entryPlaceOf fun pl hpl=>?_)
 unfold EntryCells.newEntry newFields
 refine wpAny_bind (wpAny_newObj_type ?_ (hpl.sizeOk5 _ _ _ _ _))
 have fresh:H h1.objs.size=none:=I1.hok.fresh (Nat.le_refl _)
 have ne:h1.objs.size≠ea:=fun z=>by rw [<- z,fresh] at e; cases e
 have t3:(([head,.ref X.env.locals,.none,rawInt X.env.locals,.none] ++ (if pl.isEmpty then List.replicate 6 Value.none else pl)).toArray:Array Value)[3]? = some (rawInt X.env.locals):=by simp
 have I2:Inv X pins σ (upd H h1.objs.size (TB (rawInt X.env.locals) h1.objs.size)) { s with heap:=h1.push { cls:=.type "traceback",dict:=none,data:=.fields ([head,.ref X.env.locals,.none,rawInt X.env.locals,.none] ++ (if pl.isEmpty then List.replicate 6 Value.none else pl)).toArray } } :=
  I1.laid (a:=h1.objs.size) (t':=s.toks) (fun c u q=>Heap.get?_push_of_some _ q) (Nat.le_refl _) (TB.mk (Heap.get?_push_size _ rfl) rfl t3)
 have e2:(upd H h1.objs.size (TB (rawInt X.env.locals) h1.objs.size)) ea=some (XO C dx tb ea):=by rw [upd_ne (Ne.symm ne)]; exact e
 obtain ⟨a0,q⟩:=XO.at I2.hok e2
 refine wpAny_setField q rfl (by show 1 < 6; decide) (h _ ⟨h1.objs.size,fresh,ne,I2.xset (i:=1) (a1:=a0) e2 q rfl⟩)
theorem note_ok {Q:Unit->Shared->Prop}(hst:X.stack=X.env :: X.outer) (hL:X.env.frame=some X.env.locals) (I:Inv X pins σ H s) (e:H ea=some (XO C dx tb ea)) (ht:TbOk H tb)
  (h:∀ s',Noted X pins σ H C dx ea (rawInt X.env.locals) s'->Q () s'):wpAny (model X.prog X.w) X.A (noteFrame (.ref ea) X.env) Q E s:=by
 have hfr:X.A.frames=some (X.env :: X.outer):=by rw [I.ok.frames,hst]
 obtain ⟨a0,q⟩:=XO.at I.hok e
 unfold noteFrame
 simp only [hL]
 refine wpAny_bind (wpAny_field q (x:=tb) rfl rfl ?_)
 rcases ht with z | ⟨T,z,eT⟩
 ·subst z
  rw [if_neg (by decide)]
  exact note_new hfr hst hL I e h
 ·subst z
  obtain ⟨oT,ts,qT,dT,t3⟩:=TB.at I.hok eT
  rw [if_pos (show (Value.ref T != Value.none)=true by simp)]
  refine wpAny_bind (wpAny_field qT dT t3 ?_)
  rw [if_neg (show ¬ ((Value.none == rawInt X.env.locals)=true) by simp [rawInt])]
  have h3:3 < ts.size:=(Array.getElem?_eq_some_iff.mp t3).1
  have I1:=I.tset (v:=Value.none) eT qT dT h3
  rw [upd_id eT] at I1
  exact wpAny_bind (wpAny_setField qT dT h3 (note_new hfr hst hL I1 e h))
theorem flight_ok {Q:Unit->Shared->Prop}(I:Inv X pins σ H s) (e:H ea=some (XO C dx (.ref T) ea)) (eT:H T=some (TB fl T)) (h:∀ s',Inv X pins σ (upd H T (TB .none T)) s'->Q () s') :
  wpAny (model X.prog X.w) A (setFlight (.ref ea) none) Q E s:=by
 obtain ⟨a0,q⟩:=XO.at I.hok e
 obtain ⟨oT,ts,qT,dT,t3⟩:=TB.at I.hok eT
 unfold setFlight
 refine wpAny_bind (wpAny_field q (x:=.ref T) rfl rfl ?_)
 rw [if_pos (show (Value.ref T != Value.none)=true by simp)]
 have h3:3 < ts.size:=(Array.getElem?_eq_some_iff.mp t3).1
 exact wpAny_setField qT dT h3 (h _ (I.tset (v:=Value.none) eT qT dT h3))
def SameX (ea:Addr) (H H':Hp):Prop:=∀ b o,b≠ea->H b=some o->H' b=some o
theorem leave_ok {Q:Unit->Shared->Prop}(hst:X.stack=X.env :: X.outer) (hL:X.env.frame=some X.env.locals) (I:Inv X pins σ H s) (e:H ea=some (XO C dx tb ea)) (ht:TbOk H tb)
  (h:∀ s' T H',Inv X pins σ H' s'->H' ea=some (XO C dx (.ref T) ea)->H' T=some (TB .none T)->SameX ea H H'->Q () s'):wpAny (model X.prog X.w) X.A (leaving X.env (.ref ea)) Q E s:=by
 unfold leaving
 refine wpAny_bind (note_ok hst hL I e ht fun s1 ⟨T,n,ne,I1⟩=>?_)
 have e1:upd (upd H T (TB (rawInt X.env.locals) T)) ea (XO C dx (.ref T) ea) ea=some (XO C dx (.ref T) ea):=upd_same
 have e2:upd (upd H T (TB (rawInt X.env.locals) T)) ea (XO C dx (.ref T) ea) T=some (TB (rawInt X.env.locals) T):=by rw [upd_ne ne,upd_same]
 refine flight_ok I1 e1 e2 fun s2 I2=>h s2 T _ I2 (by rw [upd_ne (Ne.symm ne)]; exact e1) upd_same fun b o hb q=>?_
 have hT:b≠T:=ne_of_none q n
 rw [upd_ne hT,upd_ne hb,upd_ne hT]
 exact q
def CXE (P:Program) (w:World):CXT:=fun outer H s E e s'=>∃(ea C dx:Addr) (tb:Value) (H0 H':Hp),e=.ref ea/\s'.os=s.os/\AllBare s'.gens/\Un (frs outer) [] H H' s.heap s'.heap/\HOk P w H' s'.heap /\
 H' ea=some (XO C (some dx) tb ea)/\TbOk H' tb/\SameX ea H0 H'/\H0 ea=none/\E (.ref C) (some dx) H0
end
theorem passE {P:Program}{w:World}{K:PySem.W.Frag}{mg:Str->Option Value}{base:Heap}{N:List Str}{qual:Str}{scope:Scope}{f:Addr}{cd:Value}{A:Around}{outer:List Env}{s:Shared}{H:Hp}{E:XK} :
  Passes (CXE P w) (cxOf (CXE P w) P w K mg base N qual scope f cd A outer s H E) E:=by
 intro pins σ H1 s1 e s2 I h
 obtain ⟨ea,C,dx,tb,H0,H2,rfl,os,bare,un,hok,e1,ht,sx,n0,q⟩:=h
 have J:Inv (cxOf (CXE P w) P w K mg base N qual scope f cd A outer s H E) pins σ H2 s2:=I.call' (ch:=[]) os un hok bare fun b z=>absurd z (by simp)
 refine leave_ok (X:=cxOf (CXE P w) P w K mg base N qual scope f cd A outer s H E) rfl rfl J e1 ht fun s3 T H3 J3 e3 eT sx3=>?_
 exact ⟨ea,C,dx,.ref T,H0,H3,rfl,J3.os,J3.bare,J3.base,J3.hok,e3,.inr ⟨T,rfl,eT⟩,fun b o hb z=>sx3 b o hb (sx b o hb z),n0,q⟩
end L2
namespace L2
open PySem PySem.Spec
structure XCl (K:PySem.W.Frag) (C:Addr):Prop where
 obj:∃(nm q:Str) (N:Addr) (bs bm:List Value) (sn:List Str) (sub:List Value) (ab:Bool) (col:Option Bool) (dd:Option Addr) (k0 k1 k2 k3 k5:Option Value),
  K.lookup C=some (excClassObj nm q C N bs bm true sn sub ab col dd k0 k1 k2 k3 k5 "ValueError.__new__")/\XBases bm
section
variable {M:Model}{A:Around}{E:Value->Shared->Prop}{env:Env}{h:Heap}{g:Array GenState}{d:Drawn}{t:Nat}{os:OsState}
variable {nm q:Str}{C N:Addr}{bs bm:List Value}{hdct:Bool}{sn:List Str}{sub:List Value}{ab:Bool}{col:Option Bool}{dd:Option Addr}{k0 k1 k2 k3 k5:Option Value}{ea a0:Addr}{dx:Option Addr}
theorem x_raise {Q:Flow->Shared->Prop}(B:XBases bm) (hh:A.handled=none) (hC:h.get? C=some (excClassObj nm q C N bs bm hdct sn sub ab col dd k0 k1 k2 k3 k5 "ValueError.__new__"))
  (he:h.get? ea=some (XData C dx .none a0)) (hE:E (.ref ea) ⟨h,g,d,t,os⟩):wpAny M A (raiseStmt env (some (pure (.ref ea))) none) Q E ⟨h,g,d,t,os⟩:=by
 have c1:(Value.ref C :: bm).contains (.type "BaseException")=true:=by rw [List.contains_cons,B.be,Bool.or_true]
 have hc:(XData C dx .none a0).cls=.ref C:=rfl
 unfold raiseStmt
 refine wpAny_bind (wpAny_pure ?_)
 repeat (first | (with_reducible refine wpAny_loadPart_at he ?_; try rw [hc]) | with_reducible refine wpAny_loadPart_at hC ?_ | (with_reducible refine wpAny_isSubtype_exc hC ?_; rw [c1]) | wp_step)
 exact wpAny_raiseNew_none hh hE
theorem x_check_init {oe:Obj}{us:List Value}{Q:Unit->Shared->Prop}(B:XBases bm) (hC:h.get? C=some (excClassObj nm q C N bs bm hdct sn sub ab col dd k0 k1 k2 k3 k5 "ValueError.__new__"))
  (he:h.get? ea=some oe) (hc:oe.cls=.ref C) (hq:Q () ⟨h,g,d,t,os⟩):wpAny M A (checkBuiltinCall "ValueError.__init__" ⟨.ref ea :: us,[]⟩) Q E ⟨h,g,d,t,os⟩:=by
 have FV:=PySem.F.excBase_ValueError
 have c1:(Value.ref C :: bm).contains (.type "ValueError")=true:=by rw [List.contains_cons,B.ve,Bool.or_true]
 have c2:=FV.noStar
 simp only [checkBuiltinCall,FV.initKind,FV.initSplit,FV.initRow]
 repeat (first | (with_reducible refine wpAny_loadPart_at he ?_; rw [hc]) | with_reducible refine wpAny_loadPart_at hC ?_ | (with_reducible refine wpAny_isSubtype_exc hC ?_; rw [c1]) | wp_step)
 refine wpAny_onRaise ?_
 have z:∀(a b:String) (n:Nat),Bind.check ⟨.positional, "*", "ValueError",.self,[⟨"args",.varPos,false⟩]⟩ a b n (List.map (fun x=>x.fst) ({ pos:=Value.ref ea :: us }:Args).kw)=pure ():=fun a b n=>check_star_args _ _ _ _ _ _
 rw [z]
 exact wpAny_pure hq
end
section
variable {prog:Program}{w:World}{A:Around}{E:Value->Shared->Prop}{env:Env}{h:Heap}{g:Array GenState}{d:Drawn}{t:Nat}{os:OsState}
variable {nm q:Str}{C N:Addr}{bs bm:List Value}{hdct:Bool}{sn:List Str}{sub:List Value}{ab:Bool}{col:Option Bool}{dd:Option Addr}{k0 k1 k2 k3 k5:Option Value}{ea a0:Addr}{dx:Option Addr}{tb:Value}
theorem x_init {us:List Value}{Q:Value->Shared->Prop}(B:XBases bm) (hC:h.get? C=some (excClassObj nm q C N bs bm hdct sn sub ab col dd k0 k1 k2 k3 k5 "ValueError.__new__"))
  (he:h.get? ea=some (XData C dx tb a0)) (hus:us.length<=sizeLine) (hq:Q .none ⟨(h.push (xTup us)).update ea (Obj.mapFields (·.setIfInBounds 0 (.ref h.objs.size))),g,d,t,os⟩) :
  wpAny (model prog w) A (call (.builtin "ValueError.__init__") (.ref ea :: us)) Q E ⟨h,g,d,t,os⟩:=by
 have FV:=PySem.F.excBase_ValueError
 refine wpAny_call (codeAny_call_builtin FV.init.plain FV.initEntry (x_check_init B hC he rfl ?_))
 have he2:=Heap.get?_push_of_some (xTup us) he
 wp_walk
 exact hq
theorem x_set {name:Str}{v:Value}{Q:Unit->Shared->Prop}(B:XBases bm) (hC:h.get? C=some (excClassObj nm q C N bs bm true sn sub ab col dd k0 k1 k2 k3 k5 "ValueError.__new__"))
  (hx:h.get? ea=some (XData C none tb a0)) (sa:PySem.W.Looks (model prog w) h (typeLookup (.ref C) "__setattr__") (some (.builtin "object.__setattr__"))) (na:PySem.W.Looks (model prog w) h (typeLookup (.ref C) name) none)
  (hq:∀ h' t',h'.Ns1 h.objs.size (fun y=>if y=name then some v else none)->h'.get? ea=some (XData C (some h.objs.size) tb a0)->(∀ b o,b≠ea->h.get? b=some o->h'.get? b=some o)->Q () ⟨h',g,d,t',os⟩) :
  wpAny (model prog w) A (setAttr (.ref ea) name v) Q E ⟨h,g,d,t,os⟩:=by
 have SF:=PySem.F.store_ValueError
 have ty:PySem.W.Looks (model prog w) h (typeOf (.ref ea)) (.ref C):=(PySem.W.Looks.ld hx).andThen .now
 have mro:PySem.W.Looks (model prog w) h (mroOf (.ref C)) (.ref C :: bm):=((PySem.W.Looks.ld (part:=none) hC).andThen .now).andThen .now
 have sub:PySem.W.Looks (model prog w) h (isSubtype (.ref C) (.type "object")) true:=by
  intro A' Q' E' s' k q
  obtain ⟨h2,g2,d2,t2,os2⟩:=s'
  refine wpAny_isSubtype_exc (k _ _ hC) ?_
  rw [List.contains_cons,B.ob,Bool.or_true]
  exact q
 have ins:PySem.W.Looks (model prog w) h (isInstance (.ref ea) (.type "object")) true:=ty.andThen sub
 refine wpAny_bind (wpAny_mkText (wpAny_bind (wpAny_bind (wpAny_bind (ty _ _ _ _ (fun _ _ e=>e) (sa _ _ _ _ (fun _ _ e=>e) (wpAny_holding ?_)))))))
 rw [SF.slot.bind]
 refine wpAny_bind (wpAny_pure (wpAny_bind (wpAny_call ?_)))
 refine codeAny_call_builtin SF.slot.plain SF.entry (@PySem.W.check_slot (model prog w) _ _ ⟨h,g,d,t + 1,os⟩ "object.__setattr__" "object" "__setattr__" (.ref ea) [.str name t,v] [] _ SF.kind SF.split ins (SF.args (.ref ea) (.str name t) v) ?_)
 show wpAny (model prog w) A.in1 (Builtin.«object.__setattr__» ⟨[.ref ea,.str name t,v],[]⟩) _ _ _
 rw [PySem.W.osa_eq,refuse_eq]
 refine wpAny_bind (wpAny_bind (ty.here (wpAny_bind (mro.here ?_))))
 rw [refuseLoop_ref,B.rf]
 refine wpAny_pure (wpAny_bind (ty.here (wpAny_bind (na.here (wpAny_bind (wpAny_pure ?_))))))
 show wpAny _ _ (Builtin.ObjectAttr.storeInOwnDict (.ref ea) (.ref C) (.str name t) name v false) _ _ _
 unfold Builtin.ObjectAttr.storeInOwnDict
 refine wpAny_bind (wpAny_pure (wpAny_bind (wpAny_bind (wpAny_loadPart hx ?_))))
 show wpAny _ _ (classData C >>= fun cd=>if (!cd.hasDict)=true then pure none else (alloc { cls:=Value.type "dict",data:=Data.dict #[] } >>= fun e=>update ea (fun o=>{ cls:=o.cls,dict:=some e,data:=o.data,slots:=o.slots }) >>= fun _=>pure (some e))) _ _ _
 refine wpAny_bind (wpAny_bind (wpAny_load hC (wpAny_pure ?_)))
 rw [if_neg (show ¬ (!true)=true by decide)]
 have hx1:(h.push { cls:=Value.type "dict",data:=Data.dict #[] }).get? ea=some (XData C none tb a0):=Heap.get?_push_of_some _ hx
 have ne:ea≠h.objs.size:=Nat.ne_of_lt (Heap.lt_size hx)
 refine wpAny_bind (wpAny_alloc (wpAny_bind (wpAny_update hx1 (wpAny_pure ?_))))
 have hu:((h.push { cls:=Value.type "dict",data:=Data.dict #[] }).update ea fun o=>{ cls:=o.cls,dict:=some h.objs.size,data:=o.data,slots:=o.slots }).get? ea=some (XData C (some h.objs.size) tb a0):=Heap.get?_update_self _ hx1 rfl
 have hd:((h.push { cls:=Value.type "dict",data:=Data.dict #[] }).update ea fun o=>{ cls:=o.cls,dict:=some h.objs.size,data:=o.data,slots:=o.slots }).get? h.objs.size=some { cls:=Value.type "dict",data:=Data.dict #[] } :=
  (Heap.get?_update_other _ _ ne).trans (Heap.get?_push_size _ rfl)
 have hn:((h.push { cls:=Value.type "dict",data:=Data.dict #[] }).update ea fun o=>{ cls:=o.cls,dict:=some h.objs.size,data:=o.data,slots:=o.slots }).Ns h.objs.size (fun _=>none) :=
  ⟨_,#[],_,hd,rfl,fun e he=>absurd he (by simp),fun _=>rfl⟩
 show wpAny _ _ (Builtin.ObjectAttr.storeInDict h.objs.size (.str name t) name v) _ _ _
 unfold Builtin.ObjectAttr.storeInDict Builtin.ObjectAttr.newKeyGuard
 refine wpAny_bind (wpAny_pure (wpAny_bind (wpAny_nsSet1 (Heap.Ns1.of_empty hn) fun h2 hn2 sb=>?_)))
 obtain ⟨oD,esD,epD,hoD,hdD,hcD⟩:=hn2.count (Within.cons name v Within.nil)
 refine wpAny_bind (wpAny_lookBehind hoD (by rw [hdD]; exact pastItsLine_dict (Nat.le_trans hcD (by rw [List.length_singleton,sizeLine_eq]; omega))) ?_)
 refine wpAny_pure (wpAny_pure (wpAny_pure ?_))
 exact hq h2 _ hn2 ((sb.2 ea ne).trans hu) fun b o hb e=>(sb.2 b (Nat.ne_of_lt (Heap.lt_size e))).trans ((Heap.get?_update_other _ _ (Ne.symm hb)).trans (Heap.get?_push_of_some _ e))
theorem x_get {dx:Addr}{name:Str}{v:Value}{m:Str->Option Value}{expr:Bool}{Q:Value->Shared->Prop}(B:XBases bm) (hC:h.get? C=some (excClassObj nm q C N bs bm true sn sub ab col dd k0 k1 k2 k3 k5 "ValueError.__new__"))
  (hx:h.get? ea=some (XData C (some dx) tb a0)) (hm:h.Ns dx m) (hv:m name=some v) (ga:PySem.W.Looks (model prog w) h (typeLookup (.ref C) "__getattribute__") (some (.builtin "BaseException.__getattribute__")))
  (gn:PySem.W.Looks (model prog w) h (typeLookup (.ref C) "__getattr__") none) (na:PySem.W.Looks (model prog w) h (typeLookup (.ref C) name) none) (hh:PySem.W.handedIn v=true)
  (hq:∀ t',Q v ⟨h,g,d,t',os⟩):wpAny (model prog w) A (getAttr (.ref ea) name expr) Q E ⟨h,g,d,t,os⟩:=by
 have FX:=PySem.F.attr_ValueError
 have ty:PySem.W.Looks (model prog w) h (typeOf (.ref ea)) (.ref C):=(PySem.W.Looks.ld hx).andThen .now
 have sub:PySem.W.Looks (model prog w) h (isSubtype (.ref C) (.type "BaseException")) true:=by
  intro A' Q' E' s' k q
  obtain ⟨h2,g2,d2,t2,os2⟩:=s'
  refine wpAny_isSubtype_exc (k _ _ hC) ?_
  rw [List.contains_cons,B.be,Bool.or_true]
  exact q
 have ins:PySem.W.Looks (model prog w) h (isInstance (.ref ea) (.type "BaseException")) true:=ty.andThen sub
 have fnd:PySem.W.Looks (model prog w) h (Builtin.ObjectAttr.find (.ref ea) (.ref C) name) (.value v):=by
  intro A' Q' E' s' k q
  unfold Builtin.ObjectAttr.find
  refine wpAny_bind (na _ _ _ _ k (wpAny_bind (wpAny_pure (wpAny_bind (wpAny_pure ?_)))))
  show wpAny _ _ (Builtin.ObjectAttr.ownThenClass (.ref ea) name none none) _ _ _
  unfold Builtin.ObjectAttr.ownThenClass
  refine wpAny_bind (wpAny_bind (wpAny_bind (wpAny_loadPart (k _ _ hx) ?_)))
  show wpAny _ _ (instanceDict ea false) _ _ _
  refine wpAny_bind (wpAny_loadPart (k _ _ hx) ?_)
  show wpAny _ _ (classData C >>= fun cd=>if (!cd.hasDict)=true then pure none else pure (some dx)) _ _ _
  refine wpAny_bind (wpAny_bind (wpAny_load (k _ _ hC) (wpAny_pure ?_)))
  rw [if_neg (show ¬ (!true)=true by decide)]
  refine wpAny_pure ?_
  show wpAny _ _ (nsGet dx name) _ _ _
  refine wpAny_nsGet (hm.keeps k) ?_
  rw [hv]
  exact wpAny_bind (wpAny_rule (wpAny_pure q))
 unfold getAttr getAttrBy
 refine wpAny_bind (wpAny_mkText (wpAny_holding (wpAny_bind (ty _ _ _ _ (fun _ _ e=>e) (wpAny_bind (ga _ _ _ _ (fun _ _ e=>e) ?_))))))
 have n1:(onTheHeap (Value.ref C) && Value.builtin "BaseException.__getattribute__" == Value.builtin "object.__getattribute__")=false:=by
  rw [show (Value.builtin "BaseException.__getattribute__" == Value.builtin "object.__getattribute__")=false by decide +kernel,Bool.and_false]
 show wpAny _ _ (if (onTheHeap (Value.ref C) && Value.builtin "BaseException.__getattribute__" == Value.builtin "object.__getattribute__")=true then _ else _) _ _ _
 rw [if_neg (by rw [n1]; decide)]
 unfold getAttrByItsOwn
 refine wpAny_bind (show wpAny _ _ (hookBefore (.ref C)) _ _ _ from gn _ _ _ _ (fun _ _ e=>e) (wpAny_bind (wpAny_attempt (wpAny_holding ?_))))
 unfold callGetattribute
 have n2:(expr && onTheHeap (Value.builtin "BaseException.__getattribute__"))=false:=by cases expr <;> rfl
 rw [n2,if_neg (by decide)]
 unfold boundAndCalled
 rw [FX.ga.bind]
 refine wpAny_bind (wpAny_pure (wpAny_call ?_))
 refine codeAny_call_builtin FX.ga.plain F.entry_bexc_ga (@PySem.W.check_slot (model prog w) _ _ ⟨h,g,d,t + 1,os⟩ "BaseException.__getattribute__" "BaseException" "__getattribute__" (.ref ea) [.str name t] [] _ (by decide +kernel) (by decide +kernel) ins (F.args_bexc_ga (.ref ea) (.str name t)) ?_)
 show wpAny (model prog w) A.in1 (Builtin.«object.__getattribute__» ⟨[.ref ea,.str name t],[]⟩) _ _ _
 unfold Builtin.«object.__getattribute__»
 refine wpAny_bind (wpAny_pure (wpAny_bind (wpAny_pure (wpAny_bind (ty.here (wpAny_bind (fnd.here (wpAny_pure ?_))))))))
 show wpAny _ _ (handedOut v) _ _ _
 rw [PySem.W.handedOut_of hh]
 exact wpAny_pure (hq _)
end
end L2
namespace L2
open PySem PySem.Spec PyProof.Rows
structure XKl (K:PySem.W.Frag) (C:Addr):Prop extends XCl K C where
 sa:PySem.W.findIn K (.ref C) "__setattr__" = some (some (.builtin "object.__setattr__"))
 ga:PySem.W.findIn K (.ref C) "__getattribute__" = some (some (.builtin "BaseException.__getattribute__"))
 gn:PySem.W.findIn K (.ref C) "__getattr__" = some none
 nw:PySem.W.findIn K (.ref C) "word" = some none
structure XMk (K:PySem.W.Frag) (C f:Addr):Prop where
 init:PySem.W.findIn K (.ref C) "__init__" = some (some (.ref f))
 fn:PySem.W.isFn K (.ref f)=true
 kp:PySem.W.keepIn K (.ref C)=true
def tXMake (C:Addr) (sp:Sp) (E:XK):TE:=fun _ H Q=>∀ ea,H ea=none->sp [.ref ea] (upd H ea (XO C none .none ea)) (fun v H2=>v=.non/\Q (.ref ea) H2) E
section
variable {X:Cx}{CX:CXT}{k:Nat}{f C:Addr}{fd:FuncData}{ps:List Str}{sp:Sp}{E:XK}{x:Str}{p pos apos pos':Pos}{e o value:Expr}{ta tv te:TE}{t:TA}
theorem pe_xmake0 (XC:XKl X.K C) (M:XMk X.K C f) (F:FnOk X.prog X.w X.K X.mg X.base CX k f fd ps sp) (hr:Room (k + 1) X.A) (hg:Gl X x) (hm:X.mg x=some (.ref C)) (hb:Binds X.K fd ps []) (hx:Passes CX X E)
  (hdb:(x == ("__debug__" : Str))=false:=by decide):PE X (.Call (.Name x p) [] [] pos) (tXMake C sp E):=by
 intro pins s σ H Q I h
 obtain ⟨nm,q,N,bs,bm,sn,sub,ab,col,dd,k0,k1,k2,k3,k5,lk,B⟩:=XC.obj
 refine wpAny_Call_Name_kw (ld_glob I hg hm ?_ hdb)
 refine PySem.W.callWith_K0 I.kIn M.kp (wpAny_call ?_)
 have I1:Inv X pins σ H { s with heap:=s.heap.push (xTup []) }:=I.kept (t':=s.toks) fun b o e=>Heap.get?_push_of_some _ e
 have I2:Inv X pins σ (upd H (s.heap.objs.size + 1) (XO C none .none (s.heap.objs.size + 1))) { s with heap:=(s.heap.push (xTup [])).push (xObj C s.heap.objs.size) }:=by
  refine I1.laid (a:=s.heap.objs.size + 1) (t':=s.toks) (fun b o e=>Heap.get?_push_of_some _ e) (Nat.le_of_eq (Heap.size_push ..)) (XO.mk (a0:=s.heap.objs.size) ?_)
  exact Heap.get?_push_at (by rw [Heap.size_push]) rfl
 have hq:=h (s.heap.objs.size + 1) (I.hok.fresh (Nat.le_succ _))
 have hl:[Value.ref (s.heap.objs.size + 1)].length=ps.length:=by have:=F.len _ _ _ _ hq; simpa using this
 have hl2:([Value.ref (s.heap.objs.size + 1)] ++ []).length=ps.length:=by rw [List.append_nil]; exact hl
 obtain ⟨hh,g,d,t,os⟩:=s
 refine x_make (us:=[]) B (I.kIn _ _ lk) (PySem.W.looks_findIn I.kIn M.init) (fun self=>PySem.W.bind_fn I.kIn self (beq_iff_eq.mp M.fn)) (Nat.zero_le _) ?_
 refine codeAny_mono (F.run _ X.stack _ _ ⟨[Value.ref (hh.objs.size + 1)],[]⟩ ([Value.ref (hh.objs.size + 1)] ++ []) [V.ref (hh.objs.size + 1)] _ E (hr.make C [] []) (I2.env0.make C [] []) (hb _ [Value.ref (hh.objs.size + 1)] I2.kIn hl2) (.cons rfl .nil) hq) fun r s' hq'=>?_
 cases r with
 | error e=>exact hx pins σ _ _ e s' I2 hq'
 | ok fl =>
  cases fl with
  | ret u =>
   obtain ⟨v,H',I3,rv,ev,q3⟩:=I2.after hq'
   subst ev
   exact ⟨rv,⟨V.ref (hh.objs.size + 1),H',I3,rfl,q3⟩⟩
  | next=>exact False.elim hq'
  | brk=>exact False.elim hq'
  | cont=>exact False.elim hq'
def tVInit (K:PySem.W.Frag) (t:TA):TE:=fun σ H Q=>t σ H fun vs H2=>∃ ea C dx tb y,vs=[.ref ea,y]/\H2 ea=some (XO C dx tb ea)/\XKl K C/\Q .non H2
theorem ve_find:PySem.W.findCls [] (.type "ValueError") (.type "type") "__init__" = some (.val (.builtin "ValueError.__init__")):=by kernel_rfl
theorem pe_vinit {a b:Expr}{pl:Sem Bool}(hg:Gl X "ValueError") (hm:X.mg "ValueError" = none) (ha:PA X [a,b] t)
  (hst:starEach [a,b] X.env=(false,eval a X.env) :: starEach [b] X.env:=by rfl) (hpl:(backTo pos (starEach [b] X.env)).any (·.1)=false:=by rfl)
  (ht:eval (.Call (.Attribute (.Name "ValueError" p) "__init__" apos) [a,b] [] pos) X.env=(do
   let ov <- eval (.Name "ValueError" p) X.env
   standAt apos.atName
   let (f,first) <- holding [ov] (getMethod ov "__init__" pl)
   callWith pos f first (backTo pos (starEach [a,b] X.env)) (backToKw pos (keywordEach [] X.env))):=by rfl) :
  PE X (.Call (.Attribute (.Name "ValueError" p) "__init__" apos) [a,b] [] pos) (tVInit X.K t):=by
 intro pins s σ H Q I h
 refine PySem.W.methodCall_KW (pl:=pl) (ld_blt I hg hm (u:=.type "ValueError") (by rfl) ?_) ht
 obtain ⟨m,fr⟩:=I.fr
 refine PySem.W.method_type fr I.mod.kin (by kernel_rfl) (by decide +kernel) (show PySem.W.findCls X.K (.type "ValueError") (.type "type") "__init__" = some (.val (.builtin "ValueError.__init__")) from ve_find) (by rfl) ?_
 have I0:=I.tok (s.toks + 1)
 refine PyProof.Rows.callWith_builtin1 (thn (ha pos pins _ σ H _ I0 h) fun us s1 ⟨vs,H1,I1,r1,q1⟩=>?_) hst hpl
 obtain ⟨ea,C,dx,tb,y,rfl,e1,XC,q⟩:=q1
 obtain ⟨u,v,rfl,ru,rv⟩:=r1.two
 cases ru
 obtain ⟨nm,qn,N,bs,bm,sn,sub,ab,col,dd,k0,k1,k2,k3,k5,lk,B⟩:=XC.obj
 obtain ⟨a0,ea1⟩:=XO.at I1.hok e1
 have I2:Inv X pins σ H1 { s1 with heap:=s1.heap.push (xTup [v]) }:=I1.kept (t':=s1.toks) fun b o e=>Heap.get?_push_of_some _ e
 have I3:=I2.xset (i:=0) (v:=.ref s1.heap.objs.size) (a1:=s1.heap.objs.size) e1 (Heap.get?_push_of_some _ ea1) rfl
 rw [upd_id e1] at I3
 obtain ⟨hh,g,d,tt,os⟩:=s1
 exact x_init (us:=[v]) B (I1.kIn _ _ lk) ea1 (by show 1<=sizeLine; rw [sizeLine_eq]; omega) ⟨.non,H1,I3,rfl,q⟩
end
end L2
namespace L2
open PySem PySem.Spec PyProof.Rows
structure XAt (K:PySem.W.Frag) (C:Addr) (m:Str) (f:Addr):Prop where
 ga:PySem.W.specialIn K (.ref C) "__getattribute__" = some (some (.builtin "type.__getattribute__"))
 rd:PySem.W.readsIn K C (.type "type")=true
 fd:PySem.W.findCls K (.ref C) (.type "type") m=some (.val (.ref f))
 kp:PySem.W.keepIn K (.ref f)=true
section
variable {X:Cx}{CX:CXT}{k:Nat}{f C:Addr}{fd:FuncData}{ps:List Str}{sp:Sp}{E:XK}{x m:Str}{p pos apos pos':Pos}{e o value:Expr}{es:List Expr}{ta tv te:TE}{t:TA}
theorem pe_cmeth {pl:Sem Bool}(Z:XAt X.K C m f) (F:FnOk X.prog X.w X.K X.mg X.base CX k f fd ps sp) (hr:Room k X.A) (hg:Gl X x) (hm:X.mg x=some (.ref C)) (hb:Binds X.K fd ps []) (hx:Passes CX X E) (ha:PA X (e :: es) t)
  (hst:starEach (e :: es) X.env=(false,eval e X.env) :: starEach es X.env:=by rfl) (hpl:(backTo pos (starEach es X.env)).any (·.1)=false:=by rfl) (hdb:(x == ("__debug__" : Str))=false:=by decide)
  (ht:eval (.Call (.Attribute (.Name x p) m apos) (e :: es) [] pos) X.env=(do
   let ov <- eval (.Name x p) X.env
   standAt apos.atName
   let (f,first) <- holding [ov] (getMethod ov m pl)
   callWith pos f first (backTo pos (starEach (e :: es) X.env)) (backToKw pos (keywordEach [] X.env))):=by rfl) :
  PE X (.Call (.Attribute (.Name x p) m apos) (e :: es) [] pos) (tCall sp [] E t):=by
 intro pins s σ H Q I h
 refine PySem.W.methodCall_KW (pl:=pl) (ld_glob I hg hm ?_ hdb) ht
 refine PySem.W.method_cls I.kIn Z.ga (PySem.W.cls_value I.kIn Z.rd Z.fd (by rfl) ?_)
 have I0:=I.tok (s.toks + 1)
 refine PySem.W.callWith_K (first:=[]) (h₀:=X.base) I.ok.mod.kin Z.kp (thn (ha pos pins _ σ H _ I0 h) fun us s1 ⟨vs,H1,I1,r,q⟩=>⟨I1.kIn,?_⟩) hst hpl
 exact run_fn F hr hb .nil hx I1 r q
def sXFld (K:PySem.W.Frag) (ta tv:TE) (n:Str):TS:=fun D σ H=>tv σ H fun y H1=>ta σ H1 fun x H2=>∃ ea C tb,x=.ref ea/\H2 ea=some (XO C none tb ea)/\XKl K C/\PySem.W.findIn K (.ref C) n=some none /\
 ∀ dx,H2 dx=none->D.nx σ (upd (upd H2 ea (XO C (some dx) tb ea)) dx (.xd [(n,y)]))
theorem ps_xfld {n:Str}(ha:PE X o ta) (hv:PE X value tv) (hs:swapsWith value (some (.Attribute o n pos')) pos.line X.env=pure false:=by rfl):PS X (.Assign [.Attribute o n pos'] value pos) (sXFld X.K ta tv n):=by
 intro pins s σ H D I h
 refine plainObj_wpAny_Assign_Attribute (thn (hv pins s σ H _ I h) fun u s1 ⟨y,H1,I1,ry,q⟩=>thn (ha pins s1 σ H1 _ I1 q) fun ov s2 ⟨x,H2,I2,rx,ea,C,tb,ex,e1,XC,nw,q2⟩=>?_) hs
 subst ex
 obtain rfl:ov=Value.ref ea:=rx
 obtain ⟨nm,qn,N,bs,bm,sn,sub,ab,col,dd,k0,k1,k2,k3,k5,lk,B⟩:=XC.obj
 obtain ⟨a0,q1⟩:=XO.at I2.hok e1
 have fresh:H2 s2.heap.objs.size=none:=I2.hok.fresh (Nat.le_refl _)
 have ne:ea≠s2.heap.objs.size:=fun z=>by rw [z,fresh] at e1; cases e1
 have K2:=I2.kIn
 obtain ⟨hh,g,d,tt,os⟩:=s2
 refine x_set (name:=n) (v:=u) B (K2 _ _ lk) q1 (PySem.W.looks_findIn K2 XC.sa) (PySem.W.looks_findIn K2 nw) fun h' t' hn hx hk=>?_
 have lt:ea < hh.objs.size:=Heap.lt_size q1
 have un:Un X.fs [] H2 (upd (upd H2 ea (XO C (some hh.objs.size) tb ea)) hh.objs.size (.xd [(n,y)])) hh h':=by
  have ntr:∀ b,H2 b=none->b≠ea:=fun b z q=>by rw [q,e1] at z; cases z
  have hb:∀ b o,hh.get? b=some o->b≠hh.objs.size:=fun b o e=>Nat.ne_of_lt (Heap.lt_size e)
  refine ⟨fun b o e n0 _ _=>hk b o (ntr b n0) e,fun b o e n0 _ _=>⟨o.slots,hk b o (ntr b n0) e⟩,fun b o e n0 _=>?_,fun b o e _=>?_,fun b xs z=>?_,fun b o u z=>?_,fun b ps z=>⟨#[],?_⟩⟩
  ·rw [upd_ne (hb b o e),upd_ne (ntr b n0)]; exact n0
  ·by_cases z:b=ea
   ·subst z; exact ⟨_,hx⟩
   ·exact ⟨o,hk b o z e⟩
  ·rw [upd_ne (ne_of_none z fresh),upd_ne (ne_of z e1 (by intro q; cases q))]; exact z
  ·rw [upd_ne (ne_of_none z fresh),upd_ne (ne_of z e1 (by intro q; cases q))]; exact z
  ·rw [upd_ne (ne_of_none z fresh),upd_ne (ne_of z e1 (by intro q; cases q))]; simpa using z
 have hok:HOk X.prog X.w (upd (upd H2 ea (XO C (some hh.objs.size) tb ea)) hh.objs.size (.xd [(n,y)])) h':=fun b o z=>by
  by_cases b1:b=hh.objs.size
  ·subst b1
   rw [upd_same] at z; cases z
   refine ⟨_,hn,fun w'=>?_⟩
   by_cases hw:w'=n
   ·subst hw
    rw [List.lookup_cons,beq_self_eq_true,if_pos rfl]
    exact ry
   ·have hw':(w' == n)=false:=by simpa using hw
    rw [List.lookup_cons,hw',if_neg hw]
    trivial
  ·rw [upd_ne b1] at z
   by_cases b2:b=ea
   ·subst b2
    rw [upd_same] at z; cases z
    exact XO.mk hx
   ·rw [upd_ne b2] at z
    refine (I2.hok b o z).stay (fun c u hc q=>hk c u ?_ q) (fun c q=>?_) fun c xs q=>?_
    ·rcases hc with hc | hc
     ·rw [hc]; exact b2
     ·exact ne_of hc e1 (by intro q; cases q)
    ·rw [upd_ne (ne_of_none q fresh),upd_ne (ne_of q e1 (by intro q; cases q))]; exact q
    ·rw [upd_ne (ne_of_none q fresh),upd_ne (ne_of q e1 (by intro q; cases q))]; exact q
 exact ⟨σ,_,I2.un (h':=h') (t':=t') un hok,q2 _ fresh⟩
def tXGet (K:PySem.W.Frag) (ta:TE) (n:Str):TE:=fun σ H Q=>ta σ H fun x H1=>∃ ea C dx tb fs v,x=.ref ea/\H1 ea=some (XO C (some dx) tb ea)/\H1 dx=some (.xd fs)/\fs.lookup n=some v/\XKl K C/\PySem.W.findIn K (.ref C) n=some none/\Q v H1
theorem pe_xget {n:Str}(he:PE X e ta) (hb:attributeBase e n X.env (eval e X.env)=eval e X.env:=by rfl):PE X (.Attribute e n pos) (tXGet X.K ta n):=by
 intro pins s σ H Q I h
 refine attr_of hb (thn (he pins s σ H _ I h) fun u s1 ⟨x,H1,I1,rx,ea,C,dx,tb,fs,v,ex,e1,e2,l,XC,nw,q⟩=>?_)
 subst ex
 obtain rfl:u=Value.ref ea:=rx
 obtain ⟨nm,qn,N,bs,bm,sn,sub,ab,col,dd,k0,k1,k2,k3,k5,lk,B⟩:=XC.obj
 obtain ⟨a0,q1⟩:=XO.at I1.hok e1
 obtain ⟨m,hm,hr⟩:=I1.hok dx _ e2
 have rv:=hr n
 rw [l] at rv
 cases z:m n with
 | none=>rw [z] at rv; exact rv.elim
 | some u =>
  rw [z] at rv
  have K1:=I1.kIn
  have J:=I1
  obtain ⟨hh,g,d,tt,os⟩:=s1
  exact x_get B (K1 _ _ lk) q1 hm.ns z (PySem.W.looks_findIn K1 XC.ga) (PySem.W.looks_findIn K1 XC.gn) (PySem.W.looks_findIn K1 nw) (handed_of rv) fun t'=>⟨v,H1,J.tok t',rv,q⟩
def tRaise (K:PySem.W.Frag) (te:TE) (E:XK):TS:=fun _ σ H=>te σ H fun x H1=>∃ ea C dx,x=.ref ea/\H1 ea=some (XO C (some dx) .none ea)/\XKl K C/\E (.ref C) (some dx) (fun b=>if b=ea then none else H1 b)
theorem ps_raise (hc:X.calm=true) (hx:Passes (CXE X.prog X.w) X E) (he:PE X e te):PS X (.Raise (some e) none pos) (tRaise X.K te E):=by
 intro pins s σ H D I h
 rw [arm_exec_Raise]
 show wpAny _ _ (standAt pos >>= fun _=>raiseStmt X.env (some (eval e X.env >>= fun v=>standAt pos >>= fun _=>pure v)) none) _ _ s
 refine wpAny_bind (wpAny_standAt ?_)
 have key:wpAny (model X.prog X.w) X.A (eval e X.env >>= fun v=>standAt pos >>= fun _=>raiseStmt X.env (some (pure v)) none) (SP X pins D) X.xe s:=by
  refine wpAny_bind (thn (he pins s σ H _ I h) fun u s1 ⟨x,H1,I1,rx,ea,C,dx,ex,e1,XC,q⟩=>?_)
  subst ex
  obtain rfl:u=Value.ref ea:=rx
  obtain ⟨nm,qn,N,bs,bm,sn,sub,ab,col,dd,k0,k1,k2,k3,k5,lk,B⟩:=XC.obj
  obtain ⟨a0,q1⟩:=XO.at I1.hok e1
  refine wpAny_bind (wpAny_standAt ?_)
  have fin:X.xe (.ref ea) s1:=hx pins σ H1 s1 (.ref ea) s1 I1 ⟨ea,C,dx,.none,_,H1,rfl,rfl,I1.bare,Un.refl,I1.hok,e1,.inl rfl,fun b o hb z=>by rw [if_neg hb] at z; exact z,if_pos rfl,q⟩
  have K1:=I1.kIn
  have hd:=I1.ok.hd hc
  obtain ⟨hh,g,d,tt,os⟩:=s1
  exact x_raise B hd (K1 _ _ lk) q1 fin
 have e1:∀ y:Sem Value,raiseStmt X.env (some y) none=y >>= fun v=>raiseStmt X.env (some (pure v)) none:=fun y=>by
  unfold raiseStmt
  simp only [pure_bind]
 rw [e1,bind_assoc]
 simp only [bind_assoc,pure_bind]
 exact key
end
end L2
namespace L2
open PySem PySem.Spec PyProof.Rows
structure XSub (K:PySem.W.Frag) (C W:Addr):Prop where
 obj:∃(nm q:Str) (N:Addr) (bs bm:List Value) (sn:List Str) (sub:List Value) (ab:Bool) (col:Option Bool) (dd:Option Addr) (k0 k1 k2 k3 k5:Option Value),
  K.lookup C=some (excClassObj nm q C N bs bm true sn sub ab col dd k0 k1 k2 k3 k5 "ValueError.__new__")/\(Value.ref C :: bm).contains (.ref W)=true
section
variable {M:Model}{A:Around}{E:Value->Shared->Prop}{h:Heap}{g:Array GenState}{d:Drawn}{t:Nat}{os:OsState}
variable {nm q nm' q':Str}{C N W N':Addr}{bs bm bs' bm':List Value}{sn sn':List Str}{sub sub':List Value}{ab ab':Bool}{col col':Option Bool}{dd dd':Option Addr}{k0 k1 k2 k3 k5 l0 l1 l2 l3 l5:Option Value}{ea:Addr}{oe:Obj}
theorem x_match {Q:Bool->Shared->Prop}(hC:h.get? C=some (excClassObj nm q C N bs bm true sn sub ab col dd k0 k1 k2 k3 k5 "ValueError.__new__")) (hW:h.get? W=some (excClassObj nm' q' W N' bs' bm' true sn' sub' ab' col' dd' l0 l1 l2 l3 l5 "ValueError.__new__"))
  (B:XBases bm') (hs:(Value.ref C :: bm).contains (.ref W)=true) (he:h.get? ea=some oe) (hc:oe.cls=.ref C) (hq:Q true ⟨h,g,d,t,os⟩):wpAny M A (excMatches (.ref ea) (.ref W)) Q E ⟨h,g,d,t,os⟩:=by
 have c1:(Value.ref W :: bm').contains (.type "BaseException")=true:=by rw [List.contains_cons,B.be,Bool.or_true]
 have f:=tc_notTuple
 unfold excMatches
 repeat (first | (with_reducible refine wpAny_loadPart_at he ?_; rw [hc]) | with_reducible refine wpAny_loadPart_at hW ?_ | (with_reducible refine wpAny_isSubtype_exc hW ?_; rw [c1]) | (with_reducible refine wpAny_isSubtype_exc hC ?_; rw [hs]) | wp_step)
 exact hq
end
abbrev Cx.guard (X:Cx) (pins:List (Addr×Obj)) (Ey:Value->Shared->Prop):Cx:={ X with pn:=X.pn ++ pins,xe:=Ey }
abbrev Cx.suite (X:Cx) (ea:Addr):Cx:={ X with A:=X.A.mark (some (.ref ea)),calm:=false,xe:=fun _ _=>False }
section
variable {X:Cx}{pins:List (Addr×Obj)}{σ:St}{H:Hp}{s:Shared}{Ey:Value->Shared->Prop}{ea:Addr}
theorem Cx.Ok.guard (ok:X.Ok):(X.guard pins Ey).Ok:=⟨ok.mod,ok.kind,ok.glob,ok.blt,ok.above,ok.inj,ok.has,ok.cab,ok.hd,ok.frames,ok.stk,ok.exf,ok.bs,ok.bsz,ok.noex,ok.exfs,ok.funs,ok.frf⟩
theorem Cx.Ok.unguard (ok:(X.guard pins Ey).Ok):X.Ok:=⟨ok.mod,ok.kind,ok.glob,ok.blt,ok.above,ok.inj,ok.has,ok.cab,ok.hd,ok.frames,ok.stk,ok.exf,ok.bs,ok.bsz,ok.noex,ok.exfs,ok.funs,ok.frf⟩
theorem Cx.Ok.suite (ok:X.Ok):(X.suite ea).Ok:=⟨ok.mod,ok.kind,ok.glob,ok.blt,ok.above,ok.inj,ok.has,ok.cab,fun z=>absurd (show false=true from z) (by decide),ok.frames,ok.stk,ok.exf,ok.bs,ok.bsz,ok.noex,ok.exfs,ok.funs,ok.frf⟩
theorem Inv.guard (I:Inv X pins σ H s):Inv (X.guard pins Ey) [] σ H s:=⟨I.ok.guard,I.os,I.bare,I.base,I.loc,I.cell,I.free,I.freeC,fun p hp=>I.pin p (by simpa using hp),I.hok,I.len⟩
theorem Inv.unguard {pins':List (Addr×Obj)}(I:Inv (X.guard pins Ey) pins' σ H s):Inv X pins σ H s:=⟨I.ok.unguard,I.os,I.bare,I.base,I.loc,I.cell,I.free,I.freeC,fun p hp=>I.pin p (List.mem_append_left _ hp),I.hok,I.len⟩
theorem Inv.suite (I:Inv X pins σ H s):Inv (X.suite ea) pins σ H s:=⟨I.ok.suite,I.os,I.bare,I.base,I.loc,I.cell,I.free,I.freeC,I.pin,I.hok,I.len⟩
theorem Inv.unsuite (ok:X.Ok) (I:Inv (X.suite ea) pins σ H s):Inv X pins σ H s:=⟨ok,I.os,I.bare,I.base,I.loc,I.cell,I.free,I.freeC,I.pin,I.hok,I.len⟩
def blank (n:Nat):St:=List.replicate n none
theorem Inv.blank (I:Inv X pins σ H s):Inv X pins (L2.blank X.N.length) H s:=I.weak (by unfold L2.blank; rw [List.length_replicate,I.len]) fun i v e=>by
 unfold L2.blank at e
 rw [List.getElem?_replicate] at e
 split at e <;> cases e
theorem Inv.lost {h':Heap}{tk:Nat}{m:Str->Option Value}(I:Inv X pins σ H s) (hn:h'.Ns X.env.locals m) (hs:Heap.SameBut X.env.locals s.heap h'):Inv X pins (L2.blank X.N.length) H { s with heap:=h',toks:=tk }:=by
 have neL:∀ b o,X.s₀.heap.get? b=some o->b≠X.env.locals:=fun b o e=>Nat.ne_of_lt (Nat.lt_of_lt_of_le (Heap.lt_size e) I.ok.above)
 refine ⟨I.ok,I.os,I.bare,⟨fun b o e n hb hx=>?_,fun b o e n hb hx=>?_,I.base.free,fun b o e hx=>?_,I.base.tups,I.base.frzs,I.base.tbls⟩,⟨m,hn,fun i x v _ e2=>?_⟩,fun x c e=>?_,I.free,I.freeC,fun p hp=>?_,fun b o e=>?_,by unfold L2.blank; rw [List.length_replicate]⟩
 ·exact (hs.2 b (neL b o e)).trans (I.base.keep b o e n hb hx)
 ·obtain ⟨sl,q⟩:=I.base.slot b o e n hb hx
  exact ⟨sl,(hs.2 b (neL b o e)).trans q⟩
 ·obtain ⟨o',q⟩:=I.base.there b o e hx
  exact ⟨o',(hs.2 b (neL b o e)).trans q⟩
 ·unfold L2.blank at e2
  rw [List.getElem?_replicate] at e2
  split at e2 <;> cases e2
 ·obtain ⟨v,q⟩:=I.cell x c e
  exact ⟨v,q.sameBut hs (I.cne x c e)⟩
 ·obtain ⟨e,n,ne,nf,d⟩:=I.pin p hp
  exact ⟨(hs.2 p.1 ne).trans e,n,ne,nf,d⟩
 ·refine (I.hok b o e).stay (fun c u hc q=>(hs.2 c ?_).trans q) (fun _ q=>q) fun _ _ q=>q
  rintro rfl
  rcases hc with z | z
  ·rw [<- z,I.free] at e; cases e
  ·rw [I.free] at z; cases z
end
def Ends.behind (D:Ends) (n:Nat):Ends:={ nx:=fun _ H=>D.nx (blank n) H,rt:=D.rt,bk:=fun _ H=>D.bk (blank n) H,ct:=fun _ H=>D.ct (blank n) H }
def tTry (K:PySem.W.Frag) (n W:Nat) (Eh:XK) (i:Nat) (tb th:TS):TS:=fun D σ H=>tb D σ H/\∀(C dx:Addr) (H0:Hp) (ea T:Addr) (H':Hp),Eh (.ref C) (some dx) H0->SameX ea H0 H'->H0 ea=none->H' ea=some (XO C (some dx) (.ref T) ea) ->
 XSub K C W/\th (D.behind n) ((blank n).set i (some (.ref ea))) H'
section
variable {X:Cx}
theorem ps_try {body suite:List Stmt}{b₀:Stmt}{pW hpos pos:Pos}{xW x:Str}{W:Addr}{i:Nat}{Eh:XK}{tb th:TS}(hst:X.stack=X.env :: X.outer) (hL:X.env.frame=some X.env.locals) (hN:X.N.Nodup) (hx:X.N[i]? = some x) (hl:X.env.kindOf x=some .local)
  (hg:Gl X xW) (hm:X.mg xW=some (.ref W)) (XW:XKl X.K W) (hb:∀ pins Ey,Passes (CXE X.prog X.w) (X.guard pins Ey) Eh->PSs (X.guard pins Ey) body tb) (hh:∀ ea,PSs (X.suite ea) (b₀ :: suite) th) (hdb:(xW == ("__debug__" : Str))=false:=by decide) :
  PS X (.Try body [.ExceptHandler (some (.Name xW pW)) (some x) (b₀ :: suite) hpos] [] [] pos) (tTry X.K X.N.length W Eh i tb th):=by
 intro pins s σ H D I h
 obtain ⟨h1,h2⟩:=h
 have hfr:X.A.frames=some (X.env :: X.outer):=by rw [I.ok.frames,hst]
 refine wpAny_Try_except ?_
 have pass:Passes (CXE X.prog X.w) (X.guard pins fun e s₁=>wpAny (model X.prog X.w) X.A (noteFrame e X.env) (fun _ s₂=>wpAny (model X.prog X.w) X.A (setFlight e none) (fun _ s₃=>wpAny (model X.prog X.w) X.A (handleBy e X.env [.ExceptHandler (some (.Name xW pW)) (some x) (b₀ :: suite) hpos]) (SP X pins D) X.xe s₃) X.xe s₂) X.xe s₁) Eh:=by
  intro pins1 σ1 H1 s1 e s2 I1 hce
  obtain ⟨ea,C,dx,tb',H0,H2,rfl,os,bare,un,hok,e1,ht,sx,n0,q⟩:=hce
  have J:=(I1.call' (ch:=[]) os un hok bare fun b z=>absurd z (by simp)).unguard
  refine note_ok hst hL J e1 ht fun s3 ⟨T,nT,neT,J3⟩=>?_
  have e3:upd (upd H2 T (TB (rawInt X.env.locals) T)) ea (XO C (some dx) (.ref T) ea) ea=some (XO C (some dx) (.ref T) ea):=upd_same
  have t3:upd (upd H2 T (TB (rawInt X.env.locals) T)) ea (XO C (some dx) (.ref T) ea) T=some (TB (rawInt X.env.locals) T):=by rw [upd_ne neT,upd_same]
  refine flight_ok J3 e3 t3 fun s4 J4=>?_
  generalize hH4:upd (upd (upd H2 T (TB (rawInt X.env.locals) T)) ea (XO C (some dx) (.ref T) ea)) T (TB .none T)=H4 at J4
  have e4:H4 ea=some (XO C (some dx) (.ref T) ea):=by rw [<- hH4,upd_ne (Ne.symm neT)]; exact e3
  have t4:H4 T=some (TB .none T):=by rw [<- hH4]; exact upd_same
  have sx4:SameX ea H0 H4:=fun b o hb z=>by
   have hT:b≠T:=ne_of_none (sx b o hb z) nT
   rw [<- hH4,upd_ne hT,upd_ne hb,upd_ne hT]
   exact sx b o hb z
  obtain ⟨sub,qh⟩:=h2 C dx H0 ea T H4 q sx4 n0 e4
  obtain ⟨nm,qn,N,bs,bm,sn,sb,ab,col,dd,k0,k1,k2,k3,k5,lk,cW⟩:=sub.obj
  obtain ⟨nm',qn',N',bs',bm',sn',sb',ab',col',dd',l0,l1,l2,l3,l5,lk',BW⟩:=XW.obj
  refine wpAny_handleBy_cons (codeAny_handlers_test ?_) (by intro z; cases z)
  have J5:Inv (X.suite ea) pins σ1 H4 s4:=J4.suite
  refine ld_glob J5 hg hm ?_ hdb
  obtain ⟨a0,q4⟩:=XO.at J4.hok e4
  have K4:=J4.kIn
  have J6:=J4.blank
  obtain ⟨hh4,g4,d4,tk4,os4⟩:=s4
  refine x_match (K4 _ _ lk) (K4 _ _ lk') BW cW q4 rfl ?_
  refine codeAny_handlers_suite_as ?_
  refine flight_ok J4 e4 t4 fun s5 J7=>?_
  rw [upd_id t4] at J7
  refine store_ok J7.blank hN hx (.inl hl) (v:=.ref ea) rfl (fun s6 J8=>?_) (.inr hl)
  refine wpAny_mono (hh ea pins s6 _ H4 _ (J8.suite (ea:=ea)) qh) (fun fl s7 q7=>?_) fun _ _ z=>z.elim
  have done:∀{σ7:St} {H7:Hp},Inv (X.suite ea) pins σ7 H7 s7->∀ R:St->Hp->Flow->Prop,R (blank X.N.length) H7 fl->(∀ s8,Inv X pins (blank X.N.length) H7 s8->R (blank X.N.length) H7 fl->SP X pins D fl s8) ->
    wpAny (model X.prog X.w) X.A (do bindName X.env x .none; unbindBehindTheSuite X.env x hpos) (fun _ s8=>SP X pins D fl s8) X.xe s7:=fun {σ7 H7} J R r k=>by
   have J':=J.unsuite I.ok
   obtain ⟨m,hm',_⟩:=id J'.loc
   refine wpAny_nameGoes hl hm' (by rw [I.ok.kind]; rfl) fun h8 m8 hn8 hs8=>?_
   exact k _ (J'.lost hn8 hs8) r
  cases fl with
  | next =>
   obtain ⟨σ7,H7,J9,r⟩:=q7
   exact done J9 (fun σ H _=>D.nx σ H) r fun s8 J10 r=>⟨_,_,J10,r⟩
  | brk =>
   obtain ⟨σ7,H7,J9,r⟩:=q7
   exact done J9 (fun σ H _=>D.bk σ H) r fun s8 J10 r=>⟨_,_,J10,r⟩
  | cont =>
   obtain ⟨σ7,H7,J9,r⟩:=q7
   exact done J9 (fun σ H _=>D.ct σ H) r fun s8 J10 r=>⟨_,_,J10,r⟩
  | ret u =>
   obtain ⟨v,σ7,H7,J9,ru,r⟩:=q7
   exact done J9 (fun _ H _=>D.rt v H) r fun s8 J10 r=>⟨v,_,_,J10,ru,r⟩
 refine wpAny_mono (hb pins _ pass [] s σ H D I.guard h1) (fun fl s1 q=>?_) fun _ _ z=>z
 have un:SP X pins D fl s1:=by
  cases fl with
  | next=>obtain ⟨σ',H',J,r⟩:=q; exact ⟨σ',H',J.unguard,r⟩
  | brk=>obtain ⟨σ',H',J,r⟩:=q; exact ⟨σ',H',J.unguard,r⟩
  | cont=>obtain ⟨σ',H',J,r⟩:=q; exact ⟨σ',H',J.unguard,r⟩
  | ret u=>obtain ⟨v,σ',H',J,ru,r⟩:=q; exact ⟨v,σ',H',J.unguard,ru,r⟩
 cases fl with
 | next=>exact wpAny_execs_nil un
 | brk=>exact un
 | cont=>exact un
 | ret u=>exact un
end
end L2
namespace L2
open PySem PySem.Spec PyProof.Rows
theorem nea {a b:Nat}(h:¬ a=b):(a:Addr)≠b:=h
def StrIt (h:Heap) (a:Addr) (x:Str) (i:Nat):Prop:=∃ ty t,h.IsStrIter a ty x t i/\(ty = "str_ascii_iterator" ∨ ty = "str_iterator")
theorem StrIt.at {h h':Heap}{a:Addr}{x:Str}{i:Nat}(st:StrIt h a x i) (k:∀ o,h.get? a=some o->h'.get? a=some o):StrIt h' a x i:=by
 obtain ⟨ty,t,⟨o,e,r⟩,z⟩:=st
 exact ⟨ty,t,⟨o,k o e,r⟩,z⟩
theorem StrIt.obj {h:Heap}{a:Addr}{x:Str}{i:Nat}(st:StrIt h a x i):∃ o,h.get? a=some o/\∀ v,o.data≠.cell v:=by
 obtain ⟨ty,t,⟨o,e,c,d⟩,z⟩:=st
 exact ⟨o,e,fun v q=>by rw [d] at q; cases q⟩
section
variable {prog:Program}{w:World}{A:Around}{E:Value->Shared->Prop}{s:Shared}{a:Addr}{x:Str}{i c:Nat}
theorem nextStr_item {Q:Value->Shared->Prop}(st:StrIt s.heap a x i) (hx:x.cps[i]? = some c) (hQ:∀ h' t tk,StrIt h' a x (i + 1)->Heap.SameBut a s.heap h'->Q (.str ⟨#[c]⟩ t) { s with heap:=h',toks:=tk }) :
  wpAny (model prog w) A (Builtin.SmallTypes.nextOf (.ref a)) Q E s:=by
 obtain ⟨ty,t,it,z⟩:=st
 rcases z with rfl | rfl
 ·exact wpAny_nextOf_ascii_item it hx fun h' st' sb=>hQ h' _ _ ⟨_,t,st',.inl rfl⟩ sb
 ·exact wpAny_nextOf_wide_item it hx fun h' st' sb=>hQ h' _ _ ⟨_,t,st',.inr rfl⟩ sb
theorem nextStr_end {Q:Value->Shared->Prop}(hh:A.handled=none) (st:StrIt s.heap a x i) (hx:x.cps[i]? = none)
  (hE:∀ h' e,Heap.ExtBut a s.heap h'->(∃ o,h'.get? e=some o/\o.cls=.type "StopIteration")->E (.ref e) { s with heap:=h' }) :
  wpAny (model prog w) A (Builtin.SmallTypes.nextOf (.ref a)) Q E s:=by
 obtain ⟨ty,t,it,z⟩:=st
 rcases z with rfl | rfl
 ·exact wpAny_nextOf_ascii_end hh it hx hE
 ·exact wpAny_nextOf_wide_end hh it hx hE
theorem iterStr {t:Tok}{Q:Value->Shared->Prop}(h:∀ o:Obj,StrIt (s.heap.push o) s.heap.objs.size x 0->Q (.ref s.heap.objs.size) { s with heap:=s.heap.push o }):wpAny (model prog w) A (pyIter (.str x t)) Q E s:=by
 refine wpAny_pyIter_strU (h _ ?_)
 have e:=Heap.get?_push_size s.heap (o:={ cls:=.type (strIterType x),data:=.fields #[.str x t,.int 0 0] }) rfl
 refine ⟨strIterType x,t,⟨_,e,rfl,rfl⟩,?_⟩
 unfold strIterType
 split
 ·exact .inl rfl
 ·exact .inr rfl
end
structure Z3 (n:Nat) (x y z:Str) (i:Nat) (f0:Value) (h:Heap):Prop where
 zz:h.get? (n + 5)=some { cls:=.type "zip",dict:=none,data:=.fields #[f0,.bool false,.bool false,.ref (n + 3),.ref (n + 4)],slots:=#[] }
 ti:h.get? (n + 3)=some { cls:=.type "tuple",data:=.seq #[.ref n,.ref (n + 1),.ref (n + 2)] }
 to:∃ a b c,h.get? (n + 4)=some { cls:=.type "tuple",data:=.seq #[a,b,c] }
 i1:StrIt h n x i
 i2:StrIt h (n + 1) y i
 i3:StrIt h (n + 2) z i
structure Z2 (n:Nat) (x y:Str) (i:Nat) (f0:Value) (h:Heap):Prop where
 zz:h.get? (n + 4)=some { cls:=.type "zip",dict:=none,data:=.fields #[f0,.bool false,.bool false,.ref (n + 2),.ref (n + 3)],slots:=#[] }
 ti:h.get? (n + 2)=some { cls:=.type "tuple",data:=.seq #[.ref n,.ref (n + 1)] }
 to:∃ a b,h.get? (n + 3)=some { cls:=.type "tuple",data:=.seq #[a,b] }
 i1:StrIt h n x i
 i2:StrIt h (n + 1) y i
section
variable {prog:Program}{w:World}{A:Around}{E:Value->Shared->Prop}{s:Shared}{n:Nat}{x y z:Str}{i c1 c2 c3:Nat}
end
end L2
namespace L2
open PySem PySem.Spec PyProof.Rows
section
variable {prog:Program}{w:World}{A:Around}{E:Value->Shared->Prop}{s:Shared}{n:Nat}{x y z:Str}{i c1 c2 c3:Nat}
end
end L2
namespace L2
open PySem PySem.Spec PyProof.Rows
section
variable {X:Cx}{pins:List (Addr×Obj)}{σ:St}{H:Hp}{s:Shared}{h':Heap}{t':Nat}{fp:List Addr}
theorem Inv.turnedL (I:Inv X pins σ H s) (hf:∀ b∈fp,FpOk X pins H b) (k:∀ b o,b∉fp->s.heap.get? b=some o->h'.get? b=some o):Inv X pins σ H { s with heap:=h',toks:=t' }:=by
 have ntr:∀ b u,H b=some u->b∉fp:=fun b u e hb=>by rw [(hf b hb).1] at e; cases e
 refine I.step (g':=s.gens) (d':=s.drawn) (ch:=fp) (fun b hb=>?_) (fun b o _ _ hc e _=>k b o hc e) (fun b o _ _ hc e _=>⟨o.slots,k b o hc e⟩) (fun _ _ _ _ n=>n) (fun b o hc e=>⟨o,k b o hc e⟩) (fun _ _ e=>e) (fun _ _ _ e=>e) (fun b ps e=>⟨#[],by rw [e]; simp⟩) (fun m hm=>?_) (fun b u e=>?_) I.bare
 ·obtain ⟨_,f1,_,f3,f4,f5⟩:=hf b hb
  exact ⟨f3,f1,f4,f5⟩
 ·obtain ⟨o,es,ep,ho,r⟩:=hm
  exact ⟨o,es,ep,k _ o (fun z=>(hf _ z).2.1 rfl) ho,r⟩
 ·refine (I.hok b u e).stay (fun c v hc q=>k c v ?_ q) (fun _ q=>q) fun _ _ q=>q
  rcases hc with z | z
  ·rw [z]; exact ntr b u e
  ·exact ntr c _ z
theorem Inv.turnLaid {T:Addr}{o:HO}(I:Inv X pins σ H s) (hf:∀ b∈fp,FpOk X pins H b) (k:∀ b o,b∉fp->s.heap.get? b=some o->h'.get? b=some o) (hT:s.heap.objs.size<=T) (hT2:T∉fp)
  (new:ObjOk X.prog X.w (upd H T o) h' T o):Inv X pins σ (upd H T o) { s with heap:=h',toks:=t' }:=by
 have hn:H T=none:=I.hok.fresh hT
 have ntr:∀ b u,H b=some u->b∉fp:=fun b u e hb=>by rw [(hf b hb).1] at e; cases e
 have neT:∀ b (u:Obj),s.heap.get? b=some u->b≠T:=fun b u e=>Nat.ne_of_lt (Nat.lt_of_lt_of_le (Heap.lt_size e) hT)
 refine I.step (g':=s.gens) (d':=s.drawn) (ch:=fp) (fun b hb=>?_) (fun b o _ _ hc e _=>k b o hc e) (fun b o _ _ hc e _=>⟨o.slots,k b o hc e⟩) (fun b u _ e n=>by rw [upd_ne (neT b u e)]; exact n) (fun b o hc e=>⟨o,k b o hc e⟩)
  (fun b xs e=>by rw [upd_ne (ne_of_none e hn)]; exact e) (fun b ob u e=>by rw [upd_ne (ne_of_none e hn)]; exact e) (fun b ps e=>⟨#[],by rw [upd_ne (ne_of_none e hn),e]; simp⟩) (fun m hm=>?_) (fun b u e=>?_) I.bare
 ·obtain ⟨_,f1,_,f3,f4,f5⟩:=hf b hb
  exact ⟨f3,f1,f4,f5⟩
 ·obtain ⟨o,es,ep,ho,r⟩:=hm
  exact ⟨o,es,ep,k _ o (fun z=>(hf _ z).2.1 rfl) ho,r⟩
 ·by_cases hb:b=T
  ·subst hb; rw [upd_same] at e; cases e; exact new
  ·rw [upd_ne hb] at e
   refine (I.hok b u e).stay (fun c v hc q=>k c v ?_ q) (fun c q=>by rw [upd_ne (ne_of_none q hn)]; exact q) fun c xs q=>by rw [upd_ne (ne_of_none q hn)]; exact q
   rcases hc with z | z
   ·rw [z]; exact ntr b u e
   ·exact ntr c _ z
end
def sg (x:Str) (i:Nat):V:=.str ⟨#[x.cps.getD i 0]⟩
theorem sg_at {x:Str}{i:Nat}(h:i < x.length):x.cps[i]? = some (x.cps.getD i 0):=by
 have h':i < x.cps.size:=h
 simp [Array.getD_eq_getD_getElem?,h']
def Its (x:Str):It:=⟨fun i _=>i < x.length,fun i H v H'=>H'=H/\v=sg x i,fun i _=>x.length<=i⟩
section
variable {P:Program}{w:World}{K:PySem.W.Frag}
theorem turn_str {tg:Expr}(x:Str) (it:Addr):Turn P w K tg (Its x) [it] it (fun i h=>StrIt h it x i) where
 mem:=by simp
 obj:=fun i h st b hb=>by
  have e:b=it:=by simpa using hb
  subst e
  exact st.obj
 keep:=fun i h h' st k=>st.at fun o e=>k it (by simp) o e
 item:=by
  intro X hP hw hK hc i pins s σ H E I hf st hg
  subst hP hw hK
  obtain ⟨f0,f1,f2,f3,f4,f5⟩:=hf it (by simp)
  obtain ⟨ty,t,st,z⟩:=st
  have fin:∀ h' t' tk,(z:ty = "str_ascii_iterator" ∨ ty = "str_iterator")->h'.IsStrIter it ty x t (i + 1)->Heap.SameBut it s.heap h'->∃ u,some (Value.str ⟨#[x.cps.getD i 0]⟩ t')=some u /\
    wpAny (model X.prog X.w) X.A (letOwnedTupleGo tg (.ref it) u) (fun _ s2=>∃ v H',Inv X pins σ H' s2/\RelV v u/\(Its x).yld i H v H'/\StrIt s2.heap it x (i + 1)/\∀ b∈[it],H' b=none) E { s with heap:=h',toks:=tk }:=by
   intro h' t' tk z st' sb
   have I1:Inv X pins σ H { s with heap:=h',toks:=tk }:=I.turned (fun b o hb e=>(sb.2 b hb).trans e) f0 f1 f3 f4 f5
   obtain ⟨o,e,c,d⟩:=id st'
   exact ⟨_,rfl,go_of (s:={ s with heap:=h',toks:=tk }) e c d (by rcases z with rfl | rfl <;> decide) ⟨sg x i,H,I1,⟨t',rfl⟩,⟨rfl,rfl⟩,⟨ty,t,st',z⟩,fun b hb=>(hf b hb).1⟩⟩
  rcases z with rfl | rfl
  ·exact wpAny_pyNext_ascii_item st (sg_at hg) fun h' st' sb=>fin h' _ _ (.inl rfl) st' sb
  ·exact wpAny_pyNext_wide_item st (sg_at hg) fun h' st' sb=>fin h' _ _ (.inr rfl) st' sb
 done:=by
  intro X hP hw hK hc i pins s σ H E I hf st hg
  subst hP hw hK
  obtain ⟨f0,f1,f2,f3,f4,f5⟩:=hf it (by simp)
  have hx:x.cps[i]? = none:=Array.getElem?_eq_none hg
  obtain ⟨ty,t,st,z⟩:=st
  rcases z with rfl | rfl
  ·exact wpAny_pyNext_ascii_end (I.ok.hd hc) st hx fun h' eb=>⟨rfl,I.turned (t':=s.toks) (fun b o hb e=>eb b o hb e) f0 f1 f3 f4 f5⟩
  ·exact wpAny_pyNext_wide_end (I.ok.hd hc) st hx fun h' eb=>⟨rfl,I.turned (t':=s.toks) (fun b o hb e=>eb b o hb e) f0 f1 f3 f4 f5⟩
 self:=fun A i s Q E st h=>by
  obtain ⟨ty,t,st,z⟩:=st
  rcases z with rfl | rfl
  ·exact wpAny_pyIter_striter_ascii st h
  ·exact wpAny_pyIter_striter_wide st h
def fp3 (n:Nat):List Addr:=[n,n + 1,n + 2,n + 3,n + 4,n + 5]
def fp2 (n:Nat):List Addr:=[n,n + 1,n + 2,n + 3,n + 4]
theorem Z3.keep {n:Nat}{x y z:Str}{i:Nat}{f:Value}{h h':Heap}(Z:Z3 n x y z i f h) (k:∀ b∈fp3 n,∀ o,h.get? b=some o->h'.get? b=some o):Z3 n x y z i f h':=by
 obtain ⟨hz,hTI,⟨a,b,c,hTO⟩,i1,i2,i3⟩:=Z
 exact ⟨k _ (by simp [fp3]) _ hz,k _ (by simp [fp3]) _ hTI,⟨a,b,c,k _ (by simp [fp3]) _ hTO⟩,i1.at (k _ (by simp [fp3])),i2.at (k _ (by simp [fp3])),i3.at (k _ (by simp [fp3]))⟩
theorem Z2.keep {n:Nat}{x y:Str}{i:Nat}{f:Value}{h h':Heap}(Z:Z2 n x y i f h) (k:∀ b∈fp2 n,∀ o,h.get? b=some o->h'.get? b=some o):Z2 n x y i f h':=by
 obtain ⟨hz,hTI,⟨a,b,hTO⟩,i1,i2⟩:=Z
 exact ⟨k _ (by simp [fp2]) _ hz,k _ (by simp [fp2]) _ hTI,⟨a,b,k _ (by simp [fp2]) _ hTO⟩,i1.at (k _ (by simp [fp2])),i2.at (k _ (by simp [fp2]))⟩
theorem Z3.ob {n:Nat}{x y z:Str}{i:Nat}{f:Value}{h:Heap}(Z:Z3 n x y z i f h):∀ b∈fp3 n,∃ o,h.get? b=some o/\∀ v,o.data≠.cell v:=by
 obtain ⟨hz,hTI,⟨a,b,c,hTO⟩,i1,i2,i3⟩:=Z
 intro b hb
 unfold fp3 at hb
 simp only [List.mem_cons,List.not_mem_nil,or_false] at hb
 rcases hb with rfl | rfl | rfl | rfl | rfl | rfl
 ·exact i1.obj
 ·exact i2.obj
 ·exact i3.obj
 ·exact ⟨_,hTI,fun v q=>by cases q⟩
 ·exact ⟨_,hTO,fun v q=>by cases q⟩
 ·exact ⟨_,hz,fun v q=>by cases q⟩
theorem Z2.ob {n:Nat}{x y:Str}{i:Nat}{f:Value}{h:Heap}(Z:Z2 n x y i f h):∀ b∈fp2 n,∃ o,h.get? b=some o/\∀ v,o.data≠.cell v:=by
 obtain ⟨hz,hTI,⟨a,b,hTO⟩,i1,i2⟩:=Z
 intro b hb
 unfold fp2 at hb
 simp only [List.mem_cons,List.not_mem_nil,or_false] at hb
 rcases hb with rfl | rfl | rfl | rfl | rfl
 ·exact i1.obj
 ·exact i2.obj
 ·exact ⟨_,hTI,fun v q=>by cases q⟩
 ·exact ⟨_,hTO,fun v q=>by cases q⟩
 ·exact ⟨_,hz,fun v q=>by cases q⟩
end
section
variable {X:Cx}
def iStr (tl:TE):TI:=fun σ H R=>tl σ H fun x H1=>∃ z,x=.str z/\R (Its z) H1
theorem pi_str {tg l:Expr}{tl:TE}(hl:PE X l tl):PI X tg l (iStr tl):=by
 intro pins s σ H R I h
 refine thn (hl pins s σ H _ I h) fun v s1 ⟨x,H1,I1,r1,q1⟩=>?_
 obtain ⟨z,rfl,q⟩:=q1
 obtain ⟨t,rfl⟩:=r1
 refine iterStr fun o st=>?_
 refine ⟨s1.heap.objs.size,[s1.heap.objs.size],_,_,H1,rfl,I1.kept (t':=s1.toks) fun b o e=>Heap.get?_push_of_some _ e,turn_str z _,st,fun b hb=>?_,q⟩
 have e:b=s1.heap.objs.size:=by simpa using hb
 subst e
 exact I1.fpOk (Nat.le_refl _) (I1.hok.fresh (Nat.le_refl _))
end
end L2
namespace L2
open PySem PySem.Spec PyProof.Rows
inductive Kd where
 | non | bl | int | str | lst | tup
 deriving DecidableEq
def kdIs (K:PySem.W.Frag) (H:Hp):V->Kd->Prop
 | .non,.non=>True
 | .bl _,.bl=>True
 | .int _,.int=>True
 | .str _,.str=>True
 | .ref a,.lst=>∃ xs,SqL K H a xs
 | .ref a,.tup=>∃ xs,SqT K H a xs
 | _,_=>False
def isT:Kd->String->Option Bool
 | .non, "str" => some false | .non, "int" => some false | .non, "bool" => some false | .non, "list" => some false | .non, "tuple" => some false
 | .bl, "str" => some false | .bl, "int" => some true | .bl, "bool" => some true | .bl, "list" => some false | .bl, "tuple" => some false
 | .int, "str" => some false | .int, "int" => some true | .int, "bool" => some false | .int, "list" => some false | .int, "tuple" => some false
 | .str, "str" => some true | .str, "int" => some false | .str, "bool" => some false | .str, "list" => some false | .str, "tuple" => some false
 | .lst, "str" => some false | .lst, "int" => some false | .lst, "bool" => some false | .lst, "list" => some true | .lst, "tuple" => some false
 | .tup, "str" => some false | .tup, "int" => some false | .tup, "bool" => some false | .tup, "list" => some false | .tup, "tuple" => some true
 | _,_=>none
section
variable {X:Cx}
theorem call_isi:CallR X (.builtin "isinstance") (fun xs H Q=>∃ x k T b,xs=[x,.ty T]/\kdIs X.K H x k/\isT k T=some b/\Q (.bl b) H):=by
 intro pins s σ H xs us Q I r h
 obtain ⟨x,k,T,b,rfl,hk,ht,q⟩:=h
 obtain ⟨u,v,rfl,ru,rv⟩:=r.two
 cases rv
 have J:∀ t,EP X pins σ Q (.bool b) { s with toks:=t }:=fun t=>⟨.bl b,H,I.tok t,rfl,q⟩
 have J0:EP X pins σ Q (.bool b) s:=⟨.bl b,H,I,rfl,q⟩
 have lst:∀ a ys,SqL X.K H a ys->∃ o,s.heap.get? a=some o/\o.cls=.type "list" := fun a ys hq=>by
  obtain ⟨its,_,⟨o,n,e,c,_⟩,_⟩:=I.list hq
  exact ⟨o,e,c⟩
 have tup:∀ a ys,SqT X.K H a ys->∃ o,s.heap.get? a=some o/\o.cls=.type "tuple" := fun a ys hq=>by
  obtain ⟨its,_,⟨o,e,c,_⟩,_⟩:=I.tuple hq
  exact ⟨o,e,c⟩
 unfold isT at ht
 split at ht <;> cases ht <;> cases x <;> first | exact hk.elim | skip
 ·cases ru; exact IsiPair.NoneType_str (J _)
 ·cases ru; exact IsiPair.NoneType_int (J _)
 ·cases ru; exact IsiPair.NoneType_bool (J _)
 ·cases ru; exact IsiPair.NoneType_list (J _)
 ·cases ru; exact IsiPair.NoneType_tuple (J _)
 ·cases ru; exact IsiPair.bool_str (J _)
 ·cases ru; exact IsiPair.bool_int J0
 ·cases ru; exact IsiPair.bool_bool J0
 ·cases ru; exact IsiPair.bool_list (J _)
 ·cases ru; exact IsiPair.bool_tuple (J _)
 ·obtain ⟨t,rfl⟩:=ru; exact IsiPair.int_str (J _)
 ·obtain ⟨t,rfl⟩:=ru; exact IsiPair.int_int J0
 ·obtain ⟨t,rfl⟩:=ru; exact IsiPair.int_bool (J _)
 ·obtain ⟨t,rfl⟩:=ru; exact IsiPair.int_list (J _)
 ·obtain ⟨t,rfl⟩:=ru; exact IsiPair.int_tuple (J _)
 ·obtain ⟨t,rfl⟩:=ru; exact IsiPair.str_str J0
 ·obtain ⟨t,rfl⟩:=ru; exact IsiPair.str_int (J _)
 ·obtain ⟨t,rfl⟩:=ru; exact IsiPair.str_bool (J _)
 ·obtain ⟨t,rfl⟩:=ru; exact IsiPair.str_list (J _)
 ·obtain ⟨t,rfl⟩:=ru; exact IsiPair.str_tuple (J _)
 ·cases ru; obtain ⟨ys,hq⟩:=hk; obtain ⟨o,e,c⟩:=lst _ _ hq; exact IsiPair.list_str e c (J _)
 ·cases ru; obtain ⟨ys,hq⟩:=hk; obtain ⟨o,e,c⟩:=lst _ _ hq; exact IsiPair.list_int e c (J _)
 ·cases ru; obtain ⟨ys,hq⟩:=hk; obtain ⟨o,e,c⟩:=lst _ _ hq; exact IsiPair.list_bool e c (J _)
 ·cases ru; obtain ⟨ys,hq⟩:=hk; obtain ⟨o,e,c⟩:=lst _ _ hq; exact IsiPair.list_list e c J0
 ·cases ru; obtain ⟨ys,hq⟩:=hk; obtain ⟨o,e,c⟩:=lst _ _ hq; exact IsiPair.list_tuple e c (J _)
 ·cases ru; obtain ⟨ys,hq⟩:=hk; obtain ⟨o,e,c⟩:=tup _ _ hq; exact IsiPair.tuple_str e c (J _)
 ·cases ru; obtain ⟨ys,hq⟩:=hk; obtain ⟨o,e,c⟩:=tup _ _ hq; exact IsiPair.tuple_int e c (J _)
 ·cases ru; obtain ⟨ys,hq⟩:=hk; obtain ⟨o,e,c⟩:=tup _ _ hq; exact IsiPair.tuple_bool e c (J _)
 ·cases ru; obtain ⟨ys,hq⟩:=hk; obtain ⟨o,e,c⟩:=tup _ _ hq; exact IsiPair.tuple_list e c (J _)
 ·cases ru; obtain ⟨ys,hq⟩:=hk; obtain ⟨o,e,c⟩:=tup _ _ hq; exact IsiPair.tuple_tuple e c J0
theorem vals_bl:∀{bs:List Bool}{us:List Value},Vals (bs.map V.bl) us->us=bs.map Value.bool
 | [],_,h=>by cases h; rfl
 | b :: r,us,h=>by
  cases h with
  | cons r1 r2=>cases r1; rw [vals_bl r2]; rfl
theorem all_range:∀(bs:List Bool),((List.range bs.length).all fun i=>bs.getD i false)=bs.all id:=fun bs=>by
 have e:(List.range bs.length).map (fun i=>bs.getD i false)=bs:=by
  apply List.ext_getElem
  ·simp
  ·intro i h1 h2
   simp at h1
   simp [h1]
 conv=>rhs; rw [<- e]
 rw [List.all_map]; rfl
theorem any_range:∀(bs:List Bool),((List.range bs.length).any fun i=>bs.getD i false)=bs.any id:=fun bs=>by
 have e:(List.range bs.length).map (fun i=>bs.getD i false)=bs:=by
  apply List.ext_getElem
  ·simp
  ·intro i h1 h2
   simp at h1
   simp [h1]
 conv=>rhs; rw [<- e]
 rw [List.any_map]; rfl
theorem truth_bl {prog:Program}{w:World}{A:Around}(bs:List Bool):TruthOf prog w A (fun i v=>((bs.map Value.bool).toArray)[i]? = some v) (fun i=>bs.getD i false):=by
 intro i v s Q E hP hQ
 have hP:(bs.map Value.bool)[i]? = some v:=by simpa using hP
 rw [List.getElem?_map] at hP
 cases e:bs[i]? with
 | none=>rw [e] at hP; cases hP
 | some b =>
  rw [e] at hP
  cases hP
  refine wpAny_truthy_bool ?_
  have:bs.getD i false=b:=by rw [List.getD_eq_getElem?_getD,e]; rfl
  have hQ:Q (bs.getD i false) s:=hQ
  rw [this] at hQ
  exact hQ
theorem call_all (hc:X.calm=true):CallR X (.builtin "all") (fun xs H Q=>∃(a:Addr) (bs:List Bool),xs=[.ref a]/\SqL X.K H a (bs.map V.bl)/\Q (.bl (bs.all id)) H):=by
 intro pins s σ H xs us Q I r h
 obtain ⟨a,bs,rfl,hq,q⟩:=h
 obtain ⟨u,rfl,ru⟩:=r.one
 cases ru
 obtain ⟨its,rv,p,hz⟩:=I.list hq
 have ei:=vals_bl rv
 subst ei
 refine call_all_walk (wpAny_pyIter_list p.isList ?_)
 have ne:a≠s.heap.objs.size:=by obtain ⟨o,n,e,_⟩:=p; exact Nat.ne_of_lt (Heap.lt_size e)
 have hh:X.A.in1.handled=none:=I.ok.hd hc
 refine ⟨s.heap.objs.size,_,_,_,_,_,_,rfl,Walks.list hh _ a ne (bs.map Value.bool).toArray,⟨⟨_,Heap.get?_push_size _ rfl,rfl,rfl⟩,p.isList.push _⟩,truth_bl bs,fun h' tk kk=>?_⟩
 have e2:(List.range (bs.map Value.bool).toArray.size).all (fun i=>bs.getD i false)=bs.all id:=by
  rw [List.size_toArray,List.length_map]; exact all_range bs
 rw [e2]
 exact ⟨.bl (bs.all id),H,I.kept fun b o e=>kk b o (fun z=>by
  have z:b=s.heap.objs.size:=by simpa using z
  exact absurd (Heap.lt_size e) (by rw [z]; exact Nat.lt_irrefl _)) (Heap.get?_push_of_some _ e),rfl,q⟩
theorem call_any (hc:X.calm=true):CallR X (.builtin "any") (fun xs H Q=>∃(a:Addr) (bs:List Bool),xs=[.ref a]/\SqL X.K H a (bs.map V.bl)/\Q (.bl (bs.any id)) H):=by
 intro pins s σ H xs us Q I r h
 obtain ⟨a,bs,rfl,hq,q⟩:=h
 obtain ⟨u,rfl,ru⟩:=r.one
 cases ru
 obtain ⟨its,rv,p,hz⟩:=I.list hq
 have ei:=vals_bl rv
 subst ei
 refine call_any_walk (wpAny_pyIter_list p.isList ?_)
 have ne:a≠s.heap.objs.size:=by obtain ⟨o,n,e,_⟩:=p; exact Nat.ne_of_lt (Heap.lt_size e)
 have hh:X.A.in1.handled=none:=I.ok.hd hc
 refine ⟨s.heap.objs.size,_,_,_,_,_,_,rfl,Walks.list hh _ a ne (bs.map Value.bool).toArray,⟨⟨_,Heap.get?_push_size _ rfl,rfl,rfl⟩,p.isList.push _⟩,truth_bl bs,fun h' tk kk=>?_⟩
 have e2:(List.range (bs.map Value.bool).toArray.size).any (fun i=>bs.getD i false)=bs.any id:=by
  rw [List.size_toArray,List.length_map]; exact any_range bs
 rw [e2]
 exact ⟨.bl (bs.any id),H,I.kept fun b o e=>kk b o (fun z=>by
  have z:b=s.heap.objs.size:=by simpa using z
  exact absurd (Heap.lt_size e) (by rw [z]; exact Nat.lt_irrefl _)) (Heap.get?_push_of_some _ e),rfl,q⟩
theorem vals_strs:∀{ys:List Str}{us:List Value},Vals (ys.map V.str) us->StrsAre us ys
 | [],_,h=>by cases h; exact .nil
 | y :: r,us,h=>by
  cases h with
  | cons r1 r2=>obtain ⟨t,rfl⟩:=r1; exact .cons y t (vals_strs r2)
def rJoin (K:PySem.W.Frag):V->List V->Hp->VK->Prop:=fun x vs H Q=>∃ sep a ys,x=.str sep/\vs=[.ref a]/\SqL K H a (ys.map V.str)/\sep.length<=16/\(ys.map (·.length)).sum + ys.length<=1048576/\Q (.str (Txt.join sep ys)) H
theorem mt_join:MtR X "str.join" (rJoin X.K):=by
 intro pins s σ H x vs v us Q I rx rv h
 obtain ⟨sep,a,ys,rfl,rfl,hq,h1,h2,q⟩:=h
 obtain ⟨t,rfl⟩:=rx
 obtain ⟨u,rfl,ru⟩:=rv.one
 cases ru
 obtain ⟨its,rv,p,hz⟩:=I.list hq
 exact join_listW p.isList (by simpa using vals_strs rv) h1 h2 fun t' k=>⟨.str _,H,I.tok k,⟨t',rfl⟩,q⟩
def strRep (z:Str) (n:Int):Str:=if n < 1 then Str.empty else if (n == 1 || z.length == 0)=true then z else ⟨(List.replicate n.toNat z.cps).foldl (· ++ ·) #[]⟩
theorem foldl_size (a:Array Nat):∀(k:Nat) (b:Array Nat),((List.replicate k a).foldl (· ++ ·) b).size=b.size + k * a.size
 | 0,b=>by simp
 | k + 1,b=>by
  rw [List.replicate_succ,List.foldl_cons,foldl_size a k]
  rw [Array.size_append,Nat.succ_mul]
  omega
theorem op_rep_str:OpR X (binaryOp .Mult) (fun x y H Q=>∃ z n,x=.str z/\y=.int n/\0<=n/\n<=1000/\z.length<=1000/\Q (.str (strRep z n)) H):=by
 intro pins s σ H x y v u Q I rx ry h
 obtain ⟨z,n,rfl,rfl,h1,h2,h3,q⟩:=h
 obtain ⟨t,rfl⟩:=rx
 obtain ⟨t',rfl⟩:=ry
 have hm:z.length * n.toNat<=1000000:=by
  have:z.length * n.toNat<=1000 * 1000:=Nat.mul_le_mul h3 (by omega)
  omega
 refine PySem.P.mul_str ?_ (fun hn _=>?_) (fun hn _=>?_) ?_
 ·have e1:¬ n < -(2 ^ 63:Int):=by omega
  have e2:¬ n ≥ 2 ^ 63:=by omega
  rw [decide_eq_false e1,decide_eq_false e2]; rfl
 ·have e:(z.length:Int) * n<=2 ^ 63 - 1:=by
   have e1:(z.length:Int) * n=((z.length * n.toNat:Nat):Int):=by
    rw [Int.natCast_mul]
    congr 1
    omega
   omega
  have:=Int.le_ediv_of_mul_le (show 0 < n by omega) e
  omega
 ·have e:¬ z.length * n.toNat > sizeLine:=by rw [sizeLine_eq]; omega
  exact decide_eq_false e
 ·unfold strRep at q
  split
  ·rename_i c
   rw [if_pos c] at q
   exact ⟨by decide,⟨.str _,H,I.tok _,⟨_,rfl⟩,q⟩⟩
  ·rename_i c
   rw [if_neg c] at q
   split
   ·rename_i c2
    rw [if_pos c2] at q
    exact ⟨.str _,H,I,⟨_,rfl⟩,q⟩
   ·rename_i c2
    rw [if_neg c2] at q
    refine ⟨?_,⟨.str _,H,I.tok _,⟨_,rfl⟩,q⟩⟩
    show ((List.replicate n.toNat z.cps).foldl (· ++ ·) #[]).size<=sizeLine
    rw [foldl_size,sizeLine_eq]
    have e:n.toNat * z.cps.size=z.length * n.toNat:=Nat.mul_comm _ _
    have e0:(#[]:Array Nat).size=0:=rfl
    omega
end
end L2
namespace L2
open PySem PySem.Spec PyProof.Rows
structure Df (K:PySem.W.Frag) (mg:Str->Option Value) (x:Str) (st:Stmt) (ps:List Str) (f:Addr) (fd:FuncData):Prop where
 F:Fun K x x st f fd
 mg:mg x=some (.ref f)
 b:Binds K fd ps []
theorem passN {P:Program}{w:World}{X:Cx}:Passes (CXE P w) X E0:=fun _ _ _ _ _ _ _ h=>by
 obtain ⟨_,_,_,_,_,_,_,_,_,_,_,_,_,_,_,q⟩:=h
 exact q.elim
section
variable {P:Program}{w:World}{K:PySem.W.Frag}{mg:Str->Option Value}{base:Heap}
theorem Fun.okN {x qual:Str}{st:Stmt}{f:Addr}{fd:FuncData}{N ps:List Str}{k:Nat}{sp:Sp}(F:Fun K x qual st f fd) (S:FnScope N ps (defScope st)) (len:∀ vs H Q E,sp vs H Q E->vs.length=ps.length)
  (hbody:∀(cdv:Value) (A:Around) (outer:List Env) (s:Shared) (H:Hp) (vs:List V) (Q:VK) (E:XK),Room k (A.deeper (envOfC qual (defScope st) s.heap.objs.size f cdv))->sp vs H Q E ->
   ∃ t,PSs (cxOf (CXE P w) P w K mg base N qual (defScope st) f cdv A outer s H E).nox (defBody st) t/\t { nx:=fun _ H'=>Q .non H',rt:=Q } (start N vs) H):FnOk P w K mg base (CXE P w) (k + 1) f fd ps sp:=by
 obtain ⟨oc,od,kV,doc,pm,an,cdv,ct,osl,rfl,lk,hcd⟩:=F.ex
 refine fn_of lk hcd S len fun A outer s H vs Q E hr hsp=>?_
 obtain ⟨t,h,q⟩:=hbody cdv A outer s H vs Q E hr hsp
 exact ⟨t,h.nox,q⟩
theorem Fun.okE {x qual:Str}{st:Stmt}{f:Addr}{fd:FuncData}{N ps:List Str}{k:Nat}{sp:Sp}(F:Fun K x qual st f fd) (S:FnScope N ps (defScope st)) (len:∀ vs H Q E,sp vs H Q E->vs.length=ps.length)
  (hbody:∀(cdv:Value) (A:Around) (outer:List Env) (s:Shared) (H:Hp) (vs:List V) (Q:VK) (E:XK),Room k (A.deeper (envOfC qual (defScope st) s.heap.objs.size f cdv))->sp vs H Q E ->
   ∃ t,PSs (cxOf (CXE P w) P w K mg base N qual (defScope st) f cdv A outer s H E) (defBody st) t/\t { nx:=fun _ H'=>Q .non H',rt:=Q } (start N vs) H):FnOk P w K mg base (CXE P w) (k + 1) f fd ps sp:=by
 obtain ⟨oc,od,kV,doc,pm,an,cdv,ct,osl,rfl,lk,hcd⟩:=F.ex
 exact fn_of lk hcd S len fun A outer s H vs Q E hr hsp=>hbody cdv A outer s H vs Q E hr hsp
theorem df_mk {h:Heap}(X:K.In h) (G:h.Ns mainGlobals mg) {x:Str}{st:Stmt}{ps:List Str}{f:Addr}{oc:Value}{od an:Option Addr}{osl:Array (Option Value)}{kV doc pm cdv ct:Value}(a:PySem.W.nsIn K mainGlobals x=some (some (.ref f)))
  (l:K.lookup f=some ⟨oc,od,.func (PySem.W.fnOf x x (defArgs st) (defBody st) (defScope st) .none kV doc pm an cdv ct),osl⟩) (c:PySem.W.codeIn K cdv x=true) (k:PySem.W.keepIn K (.ref f)=true)
  (hb:∀(kV doc pm:Value) (an:Option Addr) (cdv ct:Value) (us:List Value),us.length=ps.length->bindArgs (PySem.W.fnOf x x (defArgs st) (defBody st) (defScope st) .none kV doc pm an cdv ct) ⟨us,[]⟩=pure (ps.zip us)) :
  Df K mg x st ps f (PySem.W.fnOf x x (defArgs st) (defBody st) (defScope st) .none kV doc pm an cdv ct) :=
 have F:=fun_mk (st:=st) l c k
 ⟨F,PySem.W.mg_of X G a,F.binds hb⟩
end
section
variable {X:Cx}{k:Nat}{f:Addr}{fd:FuncData}{ps:List Str}{sp:Sp}{x:Str}{st:Stmt}{p pos:Pos}{e:Expr}{es:List Expr}{t:TA}{E:XK}
theorem pe_fn (D:Df X.K X.mg x st ps f fd) (G:FnOk X.prog X.w X.K X.mg X.base (CXE X.prog X.w) k f fd ps sp) (hr:Room k X.A) (hx:Passes (CXE X.prog X.w) X E) (ha:PA X (e :: es) t) (hg:Gl X x:=by rfl)
  (hdb:(x == ("__debug__" : Str))=false:=by decide) (he:starEach (e :: es) X.env=(false,eval e X.env) :: starEach es X.env:=by rfl) (hpl:(backTo pos (starEach es X.env)).any (·.1)=false:=by rfl) :
  PE X (.Call (.Name x p) (e :: es) [] pos) (tCall sp [] E t):=pe_call G hr hg D.mg D.F.kp D.b .nil hx ha hdb he hpl
end
def cd (b:Bool):Nat:=if b then 121 else 110
def sn (b:Bool):V:=.str ⟨#[cd b]⟩
inductive Dt where
 | non | bl (b:Bool) | int (i:Int) | str (x:Str) | lst (ds:List Dt) | tup (ds:List Dt)
inductive Den (K:PySem.W.Frag) (H:Hp):V->Dt->Prop
 | non:Den K H .non .non
 | bl (b:Bool):Den K H (.bl b) (.bl b)
 | int (i:Int):Den K H (.int i) (.int i)
 | str (x:Str):Den K H (.str x) (.str x)
 | lst {a:Addr} {xs:List V} {ds:List Dt}:SqL K H a xs->xs.length=ds.length->ds.length<=5000->(∀(i:Nat) x d,xs[i]? = some x->ds[i]? = some d->Den K H x d)->Den K H (.ref a) (.lst ds)
 | tup {a:Addr} {xs:List V} {ds:List Dt}:SqT K H a xs->xs.length=ds.length->ds.length<=5000->(∀(i:Nat) x d,xs[i]? = some x->ds[i]? = some d->Den K H x d)->Den K H (.ref a) (.tup ds)
theorem Same.seqT {K:PySem.W.Frag}{H H':Hp}{a:Addr}{xs:List V}(e:Same H H') (h:SqT K H a xs):SqT K H' a xs:=by
 rcases h with (h | ⟨o,h⟩) | h
 ·exact .inl (.inl (e _ _ h))
 ·exact .inl (.inr ⟨o,e _ _ h⟩)
 ·exact .inr h
theorem Den.mono {K:PySem.W.Frag}{H H':Hp}(e:Same H H'):∀{v:V}{d:Dt},Den K H v d->Den K H' v d:=by
 intro v d h
 induction h with
 | non=>exact .non
 | bl b=>exact .bl b
 | int i=>exact .int i
 | str x=>exact .str x
 | lst h1 h2 h3 _ ih=>exact .lst (e.seq h1) h2 h3 ih
 | tup h1 h2 h3 _ ih=>exact .tup (e.seqT h1) h2 h3 ih
def Dt.deep:Dt->Nat
 | .lst ds=>1 + deeps ds
 | .tup ds=>1 + deeps ds
 | _=>0
where deeps:List Dt->Nat
 | []=>0
 | d :: r=>max d.deep (deeps r)
theorem deep_mem:∀{ds:List Dt}{i:Nat}{d:Dt},ds[i]? = some d->d.deep<=Dt.deep.deeps ds
 | _ :: _,0,_,h=>by simp at h; subst h; exact Nat.le_max_left _ _
 | _ :: r,i + 1,d,h=>Nat.le_trans (deep_mem (ds:=r) (i:=i) (by simpa using h)) (Nat.le_max_right _ _)
def Dt.eqb:Dt->Dt->Bool
 | .non,.non=>true
 | .bl a,.bl b=>a == b
 | .int a,.int b=>a == b
 | .str a,.str b=>decide (a=b)
 | .lst a,.lst b=>eqbs a b
 | .tup a,.tup b=>eqbs a b
 | _,_=>false
where eqbs:List Dt->List Dt->Bool
 | [],[]=>true
 | a :: r,b :: s=>a.eqb b && eqbs r s
 | _,_=>false
theorem Same.new {H:Hp}{p:Addr}{o:HO}(h:H p=none):Same H (upd H p o):=fun b u e=>by rw [upd_ne (ne_of_none e h)]; exact e
end L2
namespace L2
open PySem PySem.Spec PyProof.Rows
section
variable {X:Cx}{st:Stmt}{t:TS}
def tCut (M:St->Hp->Prop) (t:TS):TS:=fun D σ H=>t { D with nx:=M } σ H/\∀ σ' H',M σ' H'->D.nx σ' H'
theorem ps_cut (M:St->Hp->Prop) (h:PS X st t):PS X st (tCut M t):=by
 intro pins s σ H D I q
 obtain ⟨q1,q2⟩:=q
 refine thn (h pins s σ H _ I q1) fun f s1 r=>?_
 cases f with
 | next=>obtain ⟨σ',H',J,m⟩:=r; exact ⟨σ',H',J,q2 σ' H' m⟩
 | ret v=>exact r
 | brk=>exact r
 | cont=>exact r
end
end L2
namespace L2
open PySem PySem.Spec PyProof.Rows
section
variable {p:Addr}{g:TG}{tt:TT}{te:TE}{σ0:St}{H0:Hp}{Q:Hp->Prop}{x y z:Str}
theorem blk_str (Pv:Nat->St->Hp->Prop) (h0:Pv 0 σ0 H0) (hs:∀ i σ H,i < x.length->Pv i σ H->BlkTurn p g tt te (Pv (i + 1)) (sg x i) σ H) (hd:∀ σ H,Pv x.length σ H->Q H):tBlk (Its x) p g tt te σ0 H0 Q:=by
 refine ⟨fun i m σ H=>m=x.length - i/\i<=x.length/\Pv i σ H,⟨x.length,by simp,Nat.zero_le _,h0⟩,?_⟩
 rintro i m σ H ⟨rfl,hi,q⟩
 by_cases hlt:i < x.length
 ·refine .inr ⟨hlt,Pv (i + 1),fun σ' H' r=>⟨x.length - (i + 1),by omega,rfl,hlt,r⟩,fun v H' r=>?_⟩
  obtain ⟨e,r⟩:=r
  subst e r
  exact hs i σ _ hlt q
 ·have e:i=x.length:=by omega
  subst e
  exact .inl ⟨Nat.le_refl _,hd σ H q⟩
end
theorem turn_all {p:Addr}{i:Nat}{te:TE}{N:St->Hp->Prop}{x:V}{σ:St}{H:Hp}(h:te (σ.set i (some x)) H fun v H4=>∃ ys,H4 p=some (.lst ys)/\ys.length < sizeLine/\N (σ.set i (some x)) (upd H4 p (.lst (ys ++ [v])))) :
  BlkTurn p (gName i) tAll te N x σ H:=by
 exact iteT (B:=N (σ.set i (some x)) H) h
theorem FnOk.no {P:Program}{w:World}{K:PySem.W.Frag}{mg:Str->Option Value}{base:Heap}{CX:CXT}{k:Nat}{f:Addr}{fd:FuncData}{ps:List Str}:FnOk P w K mg base CX k f fd ps (fun _ _ _ _=>False) :=
 ⟨fun _ _ _ _ h=>h.elim,fun _ _ _ _ _ _ _ _ _ _ _ _ _ h=>h.elim⟩
theorem Den.kd {K:PySem.W.Frag}{H:Hp}{v:V}{d:Dt}(h:Den K H v d):kdIs K H v (match d with | .non=>.non | .bl _=>.bl | .int _=>.int | .str _=>.str | .lst _=>.lst | .tup _=>.tup):=by
 cases h with
 | non=>trivial
 | bl=>trivial
 | int=>trivial
 | str=>trivial
 | lst h1 _ _ _=>exact ⟨_,h1⟩
 | tup h1 _ _ _=>exact ⟨_,h1⟩
theorem eqbs_all:∀(a b:List Dt),a.length=b.length->Dt.eqb.eqbs a b=((a.zip b).map fun q=>q.1.eqb q.2).all id
 | [],[],_=>rfl
 | x :: r,y :: s,h=>by
  show (x.eqb y && Dt.eqb.eqbs r s)=_
  rw [eqbs_all r s (by simpa using h)]
  rfl
theorem eqbs_len:∀(a b:List Dt),a.length≠b.length->Dt.eqb.eqbs a b=false
 | [],[],h=>absurd rfl h
 | [],_ :: _,_=>rfl
 | _ :: _,[],_=>rfl
 | x :: r,y :: s,h=>by
  show (x.eqb y && Dt.eqb.eqbs r s)=false
  rw [eqbs_len r s (by simpa using h),Bool.and_false]
theorem Den.isN {K:PySem.W.Frag}{H:Hp}{v:V}{d:Dt}(h:Den K H v d):decide (v=V.non)=d.eqb .non:=by cases h <;> rfl
def Dt.kd:Dt->Kd
 | .non=>.non | .bl _=>.bl | .int _=>.int | .str _=>.str | .lst _=>.lst | .tup _=>.tup
theorem Den.kdIs {K:PySem.W.Frag}{H:Hp}{v:V}{d:Dt}(h:Den K H v d):L2.kdIs K H v d.kd:=by cases d <;> exact h.kd
end L2
namespace K63
open PySem L2
def top (i:Nat):Stmt:=PySem.Challenge.pw_wapentake_k63_whole_patterns_asked_again.main.body.getD i (.Pass ⟨0,0,0,0⟩)
abbrev s_cell:Stmt:=top 46
abbrev s_draws:Stmt:=top 47
structure Bt (mg:Str->Option Value):Prop where
 len:mg "len" = none
 range:mg "range" = none
 all:mg "all" = none
 zip:mg "zip" = none
 abs:mg "abs" = none
 int:mg "int" = none
 str:mg "str" = none
 bool:mg "bool" = none
 list:mg "list" = none
 tuple:mg "tuple" = none
 isi:mg "isinstance" = none
section
variable {P:Program}{w:World}{K:PySem.W.Frag}{mg:Str->Option Value}{base:Heap}
def cellM (ns:List Int) (k:Nat):Int:=ns.getD k 0
def spCell (K:PySem.W.Frag):Sp:=fun vs H Q _=>∃(a:Addr) (ns:List Int) (k:Nat),vs=[.ref a,.int k]/\SqL K H a (ns.map V.int)/\Q (.int (cellM ns k)) H
theorem sc_cell:FnScope ["_law_script", "_law_k"] ["_law_script", "_law_k"] (defScope s_cell):=⟨rfl,rfl,rfl,by decide +kernel,rfl,by decide +kernel,by decide +kernel⟩
theorem ok_cell {f:Addr}{fd:FuncData}(D:Df K mg "_law_cell" s_cell ["_law_script", "_law_k"] f fd) (B:Bt mg):FnOk P w K mg base (CXE P w) 1 f fd ["_law_script", "_law_k"] (spCell K):=by
 refine D.F.okN sc_cell (fun vs H Q E h=>?_) (fun cdv A outer s H vs Q E hr h=>?_)
 ·obtain ⟨a,ns,k,rfl,_⟩:=h
  rfl
 ·obtain ⟨a,ns,k,rfl,hS,q⟩:=h
  refine ⟨_,pss_cons (ps_if (pt_cmpR op_lt (pv 1) (pe_callB call_len_seq (by rfl) B.len PySem.boot_len (pa_cons (pv 0) pa_nil)) (nomark _))
    (pss_one (ps_ret (pe_ix ix_list (pv 0) (pv 1) (fun _ _=>rfl)))) pss_nil)
   (pss_one (ps_ret pe_int)),?_⟩
  refine ⟨_,rfl,_,rfl,a,_,rfl,.inl hS,_,_,rfl,rfl,_,rfl,?_⟩
  refine ite2 (fun c=>?_) (fun c=>?_)
  ·have c:(k:Int) < ((ns.map V.int).length:Int):=of_decide_eq_true c
   rw [List.length_map] at c
   have e:(ns.map V.int)[k]? = some (.int (cellM ns k)):=by
    rw [List.getElem?_map,List.getElem?_eq_getElem (by omega)]
    simp [cellM,List.getD_eq_getElem?_getD,List.getElem?_eq_getElem (show k < ns.length by omega)]
   exact ⟨_,rfl,_,rfl,a,_,_,_,rfl,rfl,hS,atI_nat e,q⟩
  ·have c:¬ (k:Int) < ((ns.map V.int).length:Int):=fun z=>c (decide_eq_true z)
   rw [List.length_map] at c
   have e:cellM ns k=0:=by
    simp [cellM,List.getD_eq_getElem?_getD,List.getElem?_eq_none (show ns.length<=k by omega)]
   rw [e] at q
   exact q
end
end K63
namespace K63
open PySem L2
def oneM (c:Int):Int:=(c * 48271 + 11) % 2147483647
def twoM (c:Int):Int:=(oneM c * oneM c + 40692 * oneM c + c) % 2147483399
def sixM (c:Int):Int:=(twoM c * 16807 + oneM c) % 1000000007
def absM (c:Int):Int:=if c < 0 then -c else c
def mixM (c:Int):Int:=if absM c < 10 ^ 18 then twoM c + 2147483399 * (sixM c + 1000000007 * oneM c) else absM c - 10 ^ 18
def drawsGo:Int->List Int->List Int
 | _,[]=>[]
 | c,p :: r=>c % p :: drawsGo (c / p) r
def restM (c:Int):List Int->Int
 | []=>c
 | p :: r=>restM (c / p) r
def drawsM (c:Int) (ps:List Int):List Int:=drawsGo (mixM c) ps
theorem go_len:∀(ps:List Int) (c:Int),(drawsGo c ps).length=ps.length
 | [],_=>rfl
 | p :: r,c=>by show (drawsGo (c / p) r).length + 1=r.length + 1; rw [go_len r]
theorem rest_take:∀(ps:List Int) (c:Int) (i:Nat) (p:Int),ps[i]? = some p->restM c (ps.take (i + 1))=restM c (ps.take i) / p
 | q :: r,c,0,p,h=>by simp at h; subst h; rfl
 | q :: r,c,i + 1,p,h=>by
  show restM (c / q) (r.take (i + 1))=restM (c / q) (r.take i) / p
  exact rest_take r (c / q) i p (by simpa using h)
theorem go_take:∀(ps:List Int) (c:Int) (i:Nat) (p:Int),ps[i]? = some p->(drawsGo c ps).take (i + 1)=(drawsGo c ps).take i ++ [restM c (ps.take i) % p]
 | q :: r,c,0,p,h=>by simp at h; subst h; simp [drawsGo,restM]
 | q :: r,c,i + 1,p,h=>by
  show (c % q) :: (drawsGo (c / q) r).take (i + 1)=(c % q) :: ((drawsGo (c / q) r).take i ++ [restM (c / q) (r.take i) % p])
  rw [go_take r (c / q) i p (by simpa using h)]
theorem one_b (c:Int):0<=oneM c/\oneM c < 2147483647:=⟨Int.emod_nonneg _ (by decide),Int.emod_lt_of_pos _ (by decide)⟩
theorem two_b (c:Int):0<=twoM c/\twoM c < 2147483399:=⟨Int.emod_nonneg _ (by decide),Int.emod_lt_of_pos _ (by decide)⟩
theorem six_b (c:Int):0<=sixM c/\sixM c < 1000000007:=⟨Int.emod_nonneg _ (by decide),Int.emod_lt_of_pos _ (by decide)⟩
section
variable {P:Program}{w:World}{K:PySem.W.Frag}{mg:Str->Option Value}{base:Heap}
def spDraws (K:PySem.W.Frag):Sp:=fun vs H Q _=>∃(c:Int) (p:Addr) (ps:List Int),vs=[.int c,.ref p]/\SqL K H p (ps.map V.int)/\(∀ x∈ps,0 < x/\x < 1073741824)/\ps.length<=100 /\
 ∀ q H',Same H H'->H q=none->H' q=some (.lst ((drawsM c ps).map V.int))->Q (.ref q) H'
theorem sc_draws:FnScope ["_law_cell_here", "_law_parts", "_law_one", "_law_two", "_law_six", "_law_found", "_law_part"] ["_law_cell_here", "_law_parts"] (defScope s_draws):=⟨rfl,rfl,rfl,by decide +kernel,rfl,by decide +kernel,by decide +kernel⟩
theorem ok_draws {f:Addr}{fd:FuncData}(D:Df K mg "_law_draws" s_draws ["_law_cell_here", "_law_parts"] f fd) (B:Bt mg):FnOk P w K mg base (CXE P w) 1 f fd ["_law_cell_here", "_law_parts"] (spDraws K):=by
 refine D.F.okN sc_draws (fun vs H Q E h=>?_) (fun cdv A outer s H vs Q E hr h=>?_)
 ·obtain ⟨c,p,ps,rfl,_⟩:=h
  rfl
 ·obtain ⟨c,p,ps,rfl,hS,hps,hl,k⟩:=h
  refine ⟨_,pss_cons (ps_cut (fun σ' H'=>H'=H/\∃ x2 x3 x4,σ'=[some (.int (mixM c)),some (.ref p),x2,x3,x4,none,none])
    (ps_if (pt_cmpR op_lt (pe_callB call_abs (by rfl) B.abs PyProof.Rows.boot_abs (pa_cons (pv 0) pa_nil)) (pe_op op_pow pe_int pe_int) (nomark _))
     (pss_cons (ps_set (i:=2) sc_draws.nd rfl (Or.inl rfl) (pe_op op_mod (pe_op op_add (pe_op op_mul (pv 0) pe_int) pe_int) pe_int))
     (pss_cons (ps_set (i:=3) sc_draws.nd rfl (Or.inl rfl) (pe_op op_mod (pe_op op_add (pe_op op_add (pe_op op_mul (pv 2) (pv 2)) (pe_op op_mul pe_int (pv 2))) (pv 0)) pe_int))
     (pss_cons (ps_set (i:=4) sc_draws.nd rfl (Or.inl rfl) (pe_op op_mod (pe_op op_add (pe_op op_mul (pv 3) pe_int) (pv 2)) pe_int))
     (pss_one (ps_set (i:=0) sc_draws.nd rfl (Or.inl rfl) (pe_op op_add (pv 3) (pe_op op_mul pe_int (pe_op op_add (pv 4) (pe_op op_mul pe_int (pv 2))))))))))
     (pss_one (ps_set (i:=0) sc_draws.nd rfl (Or.inl rfl) (pe_op op_sub (pe_callB call_abs (by rfl) B.abs PyProof.Rows.boot_abs (pa_cons (pv 0) pa_nil)) (pe_op op_pow pe_int pe_int))))))
   (pss_cons (ps_set (i:=5) sc_draws.nd rfl (Or.inl rfl) (pe_lst pa_nil))
   (pss_cons (ps_for PassesOwn.never rfl (pi_list (pv 1)) (pg_name (i:=6) sc_draws.nd rfl (Or.inl rfl))
    (pss_cons (ps_expr (pe_bm PySem.F.plainAttrs_list PySem.F.slot_list_append PySem.F.type_list_append mt_append (pv 5) (pa_cons (pe_op op_mod (pv 0) (pv 6)) pa_nil)))
    (pss_one (ps_set (i:=0) sc_draws.nd rfl (Or.inl rfl) (pe_op op_fdiv (pv 0) (pv 6))))))
   (pss_one (ps_ret (pv 5))))),?_⟩
  have b1:=one_b c
  have b2:=two_b c
  have b3:=six_b c
  refine ⟨?_,?_⟩
  ·refine ⟨_,rfl,_,rfl,_,_,rfl,rfl,⟨by decide,by decide,by decide⟩,_,_,rfl,rfl,_,rfl,?_⟩
   refine ite2 (fun z=>?_) (fun z=>?_)
   ·have z:absM c < 10 ^ 18:=of_decide_eq_true z
    refine ⟨_,rfl,_,_,rfl,rfl,.inr ⟨by decide,by decide⟩,_,_,rfl,rfl,_,_,rfl,rfl,(by show (0:Int) < 2147483647; decide),?_⟩
    refine ⟨_,rfl,_,rfl,_,_,rfl,rfl,.inl ⟨?_,?_⟩,_,rfl,_,_,rfl,rfl,.inl ⟨by decide,by decide⟩,_,_,rfl,rfl,_,rfl,_,_,rfl,rfl,_,_,rfl,rfl,(by show (0:Int) < 2147483399; decide),?_⟩
    ·show -(2 ^ 64) < oneM c; omega
    ·show oneM c < 2 ^ 64; omega
    refine ⟨_,rfl,_,_,rfl,rfl,.inr ⟨by decide,by decide⟩,_,rfl,_,_,rfl,rfl,_,_,rfl,rfl,(by show (0:Int) < 1000000007; decide),?_⟩
    refine ⟨_,rfl,_,rfl,_,rfl,_,_,rfl,rfl,.inl ⟨by decide,by decide⟩,_,_,rfl,rfl,_,_,rfl,rfl,.inl ⟨by decide,by decide⟩,_,_,rfl,rfl,?_⟩
    refine ⟨rfl,some (.int (oneM c)),some (.int (twoM c)),some (.int (sixM c)),?_⟩
    have e:mixM c=twoM c + 2147483399 * (sixM c + 1000000007 * oneM c):=if_pos z
    rw [e]
    rfl
   ·have z:¬ absM c < 10 ^ 18:=fun q=>z (decide_eq_true q)
    refine ⟨_,rfl,_,rfl,_,_,rfl,rfl,⟨by decide,by decide,by decide⟩,_,_,rfl,rfl,?_⟩
    refine ⟨rfl,none,none,none,?_⟩
    have e:mixM c=absM c - 10 ^ 18:=if_neg z
    rw [e]
    rfl
  ·rintro σ' H' ⟨rfl,x2,x3,x4,rfl⟩
   refine ⟨Nat.zero_le _,fun q hq=>?_⟩
   have S0:Same H' (upd H' q (.lst [])):=Same.new hq
   refine ⟨_,rfl,p,rfl,⟨_,S0.seq hS⟩,for_list (K:=K) (a:=p) (xs:=ps.map V.int) (fun i σ H2=>∃ v,σ=[some (.int (restM (mixM c) (ps.take i))),some (.ref p),x2,x3,x4,some (.ref q),v]/\Same H' H2/\H2 q=some (.lst (((drawsM c ps).take i).map V.int)))
    ⟨none,rfl,S0,upd_same⟩ (fun i σ H2 _ ⟨_,_,s2,_⟩=>s2.seq hS) ?_ ?_⟩
   ·rintro i y σ H2 hi ⟨v,rfl,s2,e2⟩
    rw [List.getElem?_map] at hi
    cases z:ps[i]? with
    | none=>rw [z] at hi; cases hi
    | some d =>
     rw [z] at hi
     cases hi
     obtain ⟨d1,d2⟩:=hps d (List.mem_of_getElem? z)
     have il:i < ps.length:=(List.getElem?_eq_some_iff.mp z).1
     refine ⟨_,rfl,.inl ⟨rfl,_,SqL.of e2⟩,_,rfl,_,rfl,_,_,rfl,rfl,d1,q,_,_,rfl,rfl,e2,?_,?_⟩
     ·rw [List.length_map,List.length_take]
      exact small1000 (by omega)
     refine ⟨_,rfl,_,rfl,_,_,rfl,rfl,⟨d1,d2⟩,?_⟩
     refine ⟨some (.int d),?_,fun b o hb=>?_,?_⟩
     ·rw [rest_take ps (mixM c) i d z]; rfl
     ·rw [upd_ne (ne_of_none hb hq)]
      exact s2 b o hb
     ·rw [upd_same]
      show some (HO.lst _)=_
      unfold drawsM
      rw [go_take ps (mixM c) i d z,List.map_append]
      rfl
   ·rintro σ H2 ⟨v,rfl,s2,e2⟩
    refine ⟨_,rfl,k q H2 s2 hq ?_⟩
    rw [e2]
    have:(drawsM c ps).take (ps.map V.int).length=drawsM c ps:=List.take_of_length_le (by unfold drawsM; rw [go_len,List.length_map]; exact Nat.le_refl _)
    rw [this]
end
end K63
namespace K63
open PySem L2
abbrev s_same:Stmt:=top 48
section
variable {P:Program}{w:World}{K:PySem.W.Frag}{mg:Str->Option Value}{base:Heap}
def spSame (K:PySem.W.Frag):Nat->Sp
 | 0=>fun _ _ _ _=>False
 | m + 1=>fun vs H Q _=>∃(v1 v2:V) (d1 d2:Dt),vs=[v1,v2]/\Den K H v1 d1/\Den K H v2 d2/\d2.deep<=m/\∀ H',Same H H'->Q (.bl (d1.eqb d2)) H'
theorem sc_same:FnScope ["_law_found", "_law_due"] ["_law_found", "_law_due"] (defScope s_same):=⟨rfl,rfl,rfl,by decide +kernel,rfl,by decide +kernel,by decide +kernel⟩
theorem small1000' {n:Nat}(h:n<=5000):n < sizeLine:=Nat.lt_of_le_of_lt h (by decide)
theorem nd3:(["_law_k", "_law_found", "_law_due"]:List Str).Nodup:=by decide +kernel
abbrev Ps:List Str:=["_law_found", "_law_due"]
theorem ok_same {f:Addr}{fd:FuncData}(D:Df K mg "_law_same" s_same Ps f fd) (B:Bt mg) (m:Nat):FnOk P w K mg base (CXE P w) m f fd Ps (spSame K m):=by
 induction m with
 | zero=>exact FnOk.no
 | succ m G =>
  refine D.F.okN sc_same (fun vs H Q E h=>?_) (fun cdv A outer s H vs Q E hr h=>?_)
  ·obtain ⟨v1,v2,d1,d2,rfl,_⟩:=h
   rfl
  ·obtain ⟨v1,v2,d1,d2,rfl,h1,h2,hd,k⟩:=h
   refine ⟨_,pss_cons (ps_if (pt_cmpR op_isN (pv 1) pe_non (nomark _)) (pss_one (ps_ret (pe_cmpR op_isN (pv 0) pe_non (nomark _)))) pss_nil)
    (pss_cons (ps_if (pt_val (pe_callB call_isi (by rfl) B.isi (by rfl) (pa_cons (pv 1) (pa_cons (pe_bltn (by rfl) B.str (v:=.ty "str") (u:=.type "str") (by rfl) rfl) pa_nil))))
      (pss_one (ps_ret (pe_and (pe_callB call_isi (by rfl) B.isi (by rfl) (pa_cons (pv 0) (pa_cons (pe_bltn (by rfl) B.str (v:=.ty "str") (u:=.type "str") (by rfl) rfl) pa_nil)))
       (pe_one (pe_cmpR op_eq (pv 0) (pv 1) (nomark _)))))) pss_nil)
    (pss_cons (ps_if (pt_val (pe_callB call_isi (by rfl) B.isi (by rfl) (pa_cons (pv 1) (pa_cons (pe_bltn (by rfl) B.int (v:=.ty "int") (u:=.type "int") (by rfl) rfl) pa_nil))))
      (pss_one (ps_ret (pe_and (pe_callB call_isi (by rfl) B.isi (by rfl) (pa_cons (pv 0) (pa_cons (pe_bltn (by rfl) B.int (v:=.ty "int") (u:=.type "int") (by rfl) rfl) pa_nil)))
       (pe_and (pe_cmpR op_eq (pe_callB call_isi (by rfl) B.isi (by rfl) (pa_cons (pv 0) (pa_cons (pe_bltn (by rfl) B.bool (v:=.ty "bool") (u:=.type "bool") (by rfl) rfl) pa_nil)))
         (pe_callB call_isi (by rfl) B.isi (by rfl) (pa_cons (pv 1) (pa_cons (pe_bltn (by rfl) B.bool (v:=.ty "bool") (u:=.type "bool") (by rfl) rfl) pa_nil))) (nomark _))
        (pe_one (pe_cmpR op_eq (pv 0) (pv 1) (nomark _))))))) pss_nil)
    (pss_cons (ps_if (PW.pt (pw_or (pt_cmpR op_ne (pe_callB call_isi (by rfl) B.isi (by rfl) (pa_cons (pv 1) (pa_cons (pe_bltn (by rfl) B.list (v:=.ty "list") (u:=.type "list") (by rfl) rfl) pa_nil)))
         (pe_callB call_isi (by rfl) B.isi (by rfl) (pa_cons (pv 0) (pa_cons (pe_bltn (by rfl) B.list (v:=.ty "list") (u:=.type "list") (by rfl) rfl) pa_nil))) (nomark _))
        (pw_or1 (pt_cmpR op_ne (pe_callB call_isi (by rfl) B.isi (by rfl) (pa_cons (pv 1) (pa_cons (pe_bltn (by rfl) B.tuple (v:=.ty "tuple") (u:=.type "tuple") (by rfl) rfl) pa_nil)))
         (pe_callB call_isi (by rfl) B.isi (by rfl) (pa_cons (pv 0) (pa_cons (pe_bltn (by rfl) B.tuple (v:=.ty "tuple") (u:=.type "tuple") (by rfl) rfl) pa_nil))) (nomark _)))))
      (pss_one (ps_ret pe_bl)) pss_nil)
    (pss_one (ps_ret (pe_and (pe_cmpR op_eq (pe_callB call_len_seq (by rfl) B.len PySem.boot_len (pa_cons (pv 0) pa_nil)) (pe_callB call_len_seq (by rfl) B.len PySem.boot_len (pa_cons (pv 1) pa_nil)) (nomark _))
     (pe_one (pe_callB (call_all rfl) (by rfl) B.all (by rfl) (pa_cons
      (pe_comp (N':=["_law_k", "_law_found", "_law_due"]) (fm:=[none,some 0,some 1]) rfl ⟨rfl,by decide +kernel,by decide +kernel,rfl,rfl,rfl⟩
       (pi_range1 (by rfl) B.range (pa_cons (pe_callB call_len_seq (by rfl) B.len PySem.boot_len (pa_cons (pv 1) pa_nil)) pa_nil))
       (fun _ _ _ _=>pg_name (i:=0) nd3 rfl (Or.inl rfl)) (fun _ _ _ _=>pif_nil)
       (fun _ _ _ _=>pe_fn D G hr passN (pa_cons (pe_ix (r:=rIx K) ix_seq (pv 1) (pv 0) (fun _ _=>rfl)) (pa_cons (pe_ix (r:=rIx K) ix_seq (pv 2) (pv 0) (fun _ _=>rfl)) pa_nil)))) pa_nil))))))))),?_⟩
   have kk:=h1.kdIs
   have fin:=k H (Same.refl H)
   cases h2 with
   | non =>
    refine ⟨_,rfl,rfl,_,rfl,iteT ⟨_,rfl,rfl,?_⟩⟩
    have e:=h1.isN
    rw [e]
    exact fin
   | str y =>
    refine ⟨_,rfl,rfl,_,rfl,iteF ⟨_,rfl,_,.str, "str",true,rfl,trivial,rfl,_,rfl,iteT ?_⟩⟩
    cases h1 with
    | str x =>
     refine ⟨_,rfl,_,.str, "str",true,rfl,trivial,rfl,_,rfl,iteT ⟨_,rfl,_,rfl,rfl,?_⟩⟩
     have e:decide (V.str x=V.str y)=(Dt.str x).eqb (.str y):=by simp [Dt.eqb]
     rw [e]
     exact fin
    | non=>exact ⟨_,rfl,_,.non, "str",false,rfl,kk,rfl,_,rfl,iteF fin⟩
    | bl _=>exact ⟨_,rfl,_,.bl, "str",false,rfl,kk,rfl,_,rfl,iteF fin⟩
    | int _=>exact ⟨_,rfl,_,.int, "str",false,rfl,kk,rfl,_,rfl,iteF fin⟩
    | lst _ _ _ _=>exact ⟨_,rfl,_,.lst, "str",false,rfl,kk,rfl,_,rfl,iteF fin⟩
    | tup _ _ _ _=>exact ⟨_,rfl,_,.tup, "str",false,rfl,kk,rfl,_,rfl,iteF fin⟩
   | int y =>
    refine ⟨_,rfl,rfl,_,rfl,iteF ⟨_,rfl,_,.int, "str",false,rfl,trivial,rfl,_,rfl,iteF ⟨_,rfl,_,.int, "int",true,rfl,trivial,rfl,_,rfl,iteT ?_⟩⟩⟩
    cases h1 with
    | int x =>
     refine ⟨_,rfl,_,.int, "int",true,rfl,trivial,rfl,_,rfl,iteT ⟨_,rfl,_,.int, "bool",false,rfl,trivial,rfl,_,rfl,_,.int, "bool",false,rfl,trivial,rfl,rfl,_,rfl,iteT ⟨_,rfl,_,rfl,rfl,?_⟩⟩⟩
     have e:decide (V.int x=V.int y)=(Dt.int x).eqb (.int y):=dec_int
     rw [e]
     exact fin
    | bl x=>exact ⟨_,rfl,_,.bl, "int",true,rfl,trivial,rfl,_,rfl,iteT ⟨_,rfl,_,.bl, "bool",true,rfl,trivial,rfl,_,rfl,_,.int, "bool",false,rfl,trivial,rfl,rfl,_,rfl,iteF fin⟩⟩
    | non=>exact ⟨_,rfl,_,.non, "int",false,rfl,kk,rfl,_,rfl,iteF fin⟩
    | str _=>exact ⟨_,rfl,_,.str, "int",false,rfl,kk,rfl,_,rfl,iteF fin⟩
    | lst _ _ _ _=>exact ⟨_,rfl,_,.lst, "int",false,rfl,kk,rfl,_,rfl,iteF fin⟩
    | tup _ _ _ _=>exact ⟨_,rfl,_,.tup, "int",false,rfl,kk,rfl,_,rfl,iteF fin⟩
   | bl y =>
    refine ⟨_,rfl,rfl,_,rfl,iteF ⟨_,rfl,_,.bl, "str",false,rfl,trivial,rfl,_,rfl,iteF ⟨_,rfl,_,.bl, "int",true,rfl,trivial,rfl,_,rfl,iteT ?_⟩⟩⟩
    cases h1 with
    | bl x =>
     refine ⟨_,rfl,_,.bl, "int",true,rfl,trivial,rfl,_,rfl,iteT ⟨_,rfl,_,.bl, "bool",true,rfl,trivial,rfl,_,rfl,_,.bl, "bool",true,rfl,trivial,rfl,rfl,_,rfl,iteT ⟨_,rfl,_,rfl,rfl,?_⟩⟩⟩
     have e:decide (V.bl x=V.bl y)=(Dt.bl x).eqb (.bl y):=dec_bl
     rw [e]
     exact fin
    | int x=>exact ⟨_,rfl,_,.int, "int",true,rfl,trivial,rfl,_,rfl,iteT ⟨_,rfl,_,.int, "bool",false,rfl,trivial,rfl,_,rfl,_,.bl, "bool",true,rfl,trivial,rfl,rfl,_,rfl,iteF fin⟩⟩
    | non=>exact ⟨_,rfl,_,.non, "int",false,rfl,kk,rfl,_,rfl,iteF fin⟩
    | str _=>exact ⟨_,rfl,_,.str, "int",false,rfl,kk,rfl,_,rfl,iteF fin⟩
    | lst _ _ _ _=>exact ⟨_,rfl,_,.lst, "int",false,rfl,kk,rfl,_,rfl,iteF fin⟩
    | tup _ _ _ _=>exact ⟨_,rfl,_,.tup, "int",false,rfl,kk,rfl,_,rfl,iteF fin⟩
   | @lst a2 xs2 ds2 hq2 hl2 hz2 hx2 =>
    have k2:kdIs K H (.ref a2) .lst:=⟨_,hq2⟩
    refine ⟨_,rfl,rfl,_,rfl,iteF ⟨_,rfl,_,.lst, "str",false,rfl,k2,rfl,_,rfl,iteF ⟨_,rfl,_,.lst, "int",false,rfl,k2,rfl,_,rfl,iteF ⟨_,rfl,_,.lst, "list",true,rfl,k2,rfl,?_⟩⟩⟩⟩
    cases h1 with
    | non=>exact ⟨_,rfl,_,.non, "list",false,rfl,kk,rfl,rfl,_,rfl,iteT (iteT fin)⟩
    | bl _=>exact ⟨_,rfl,_,.bl, "list",false,rfl,kk,rfl,rfl,_,rfl,iteT (iteT fin)⟩
    | int _=>exact ⟨_,rfl,_,.int, "list",false,rfl,kk,rfl,rfl,_,rfl,iteT (iteT fin)⟩
    | str _=>exact ⟨_,rfl,_,.str, "list",false,rfl,kk,rfl,rfl,_,rfl,iteT (iteT fin)⟩
    | tup _ _ _ _=>exact ⟨_,rfl,_,.tup, "list",false,rfl,kk,rfl,rfl,_,rfl,iteT (iteT fin)⟩
    | @lst a1 xs1 ds1 hq1 hl1 hz1 hx1 =>
     refine ⟨_,rfl,_,.lst, "list",true,rfl,kk,rfl,rfl,_,rfl,iteF ⟨_,rfl,_,.lst, "tuple",false,rfl,k2,rfl,_,rfl,_,.lst, "tuple",false,rfl,kk,rfl,rfl,_,rfl,iteF ?_⟩⟩
     refine ⟨_,rfl,a1,_,rfl,.inl hq1,_,rfl,a2,_,rfl,.inl hq2,rfl,_,rfl,?_⟩
     refine ite2 (fun c=>?_) (fun c=>?_)
     ·have c:V.int ((xs1.length:Nat):Int)=V.int ((xs2.length:Nat):Int):=of_decide_eq_true c
      have el:ds1.length=ds2.length:=by injection c with c; omega
      cases m with
      | zero=>exact absurd hd (by show ¬ 1 + _<=0; omega)
      | succ m =>
       refine ⟨_,rfl,a2,_,rfl,.inl hq2,_,rfl,by omega,by rw [hl2]; omega,fun p hp=>?_⟩
       have en:((xs2.length:Nat):Int).toNat=ds2.length:=by omega
       rw [en]
       refine blk_range (fun i σ H2=>∃ v,σ=[v,some (.ref a1),some (.ref a2)]/\Same H H2/\H2 p=some (.lst ((((ds1.zip ds2).map fun q=>q.1.eqb q.2).take i).map V.bl))) ⟨none,rfl,Same.new hp,upd_same⟩ ?_ ?_
       ·rintro i σ H2 hi ⟨v,rfl,s2,e2⟩
        have e1:ds1[i]? = some ds1[i]:=List.getElem?_eq_getElem (by omega)
        have e2':ds2[i]? = some ds2[i]:=List.getElem?_eq_getElem hi
        have f1:xs1[i]? = some xs1[i]:=List.getElem?_eq_getElem (by omega)
        have f2:xs2[i]? = some xs2[i]:=List.getElem?_eq_getElem (by omega)
        have ei:(0:Int) + (i:Int)=(i:Int):=Int.zero_add _
        refine turn_all ⟨_,rfl,_,rfl,.inl ⟨a1,_,_,_,rfl,rfl,s2.seq hq1,(by rw [ei]; exact atI_nat f1),_,rfl,_,rfl,.inl ⟨a2,_,_,_,rfl,rfl,s2.seq hq2,(by rw [ei]; exact atI_nat f2),?_⟩⟩⟩
        refine ⟨_,_,_,_,rfl,(hx1 i _ _ f1 e1).mono s2,(hx2 i _ _ f2 e2').mono s2,?_,fun H3 s3=>?_⟩
        ·have h1:1 + Dt.deep.deeps ds2<=m + 1:=hd
         have:=deep_mem e2'
         omega
        ·refine ⟨_,s3 p _ e2,?_,_,rfl,fun b o hb=>?_,?_⟩
         ·rw [List.length_map,List.length_take]
          exact small1000' (by omega)
         ·rw [upd_ne (ne_of_none hb hp)]
          exact s3 b o (s2 b o hb)
         ·rw [upd_same]
          have z:((ds1.zip ds2).map fun q=>q.1.eqb q.2)[i]? = some (ds1[i].eqb ds2[i]):=by
           rw [List.getElem?_map,(List.getElem?_zip_eq_some (z:=(ds1[i],ds2[i]))).mpr ⟨e1,e2'⟩]
           rfl
          rw [List.take_add_one,z,List.map_append]
          rfl
       ·rintro σ H2 ⟨v,rfl,s2,e2⟩
        have ek:((ds1.zip ds2).map fun q=>q.1.eqb q.2).take ds2.length=((ds1.zip ds2).map fun q=>q.1.eqb q.2):=List.take_of_length_le (by rw [List.length_map,List.length_zip]; omega)
        rw [ek] at e2
        refine ⟨p,_,rfl,SqL.of e2,?_⟩
        have:=k H2 s2
        have ee:(Dt.lst ds1).eqb (Dt.lst ds2)=((ds1.zip ds2).map fun q=>q.1.eqb q.2).all id:=eqbs_all ds1 ds2 el
        rw [ee] at this
        exact this
     ·have el:ds1.length≠ds2.length:=fun z=>c (decide_eq_true (by rw [hl1,hl2,z]))
      have ee:(Dt.lst ds1).eqb (Dt.lst ds2)=false:=eqbs_len ds1 ds2 el
      rw [ee] at fin
      exact fin
   | @tup a2 xs2 ds2 hq2 hl2 hz2 hx2 =>
    have k2:kdIs K H (.ref a2) .tup:=⟨_,hq2⟩
    refine ⟨_,rfl,rfl,_,rfl,iteF ⟨_,rfl,_,.tup, "str",false,rfl,k2,rfl,_,rfl,iteF ⟨_,rfl,_,.tup, "int",false,rfl,k2,rfl,_,rfl,iteF ⟨_,rfl,_,.tup, "list",false,rfl,k2,rfl,?_⟩⟩⟩⟩
    cases h1 with
    | non=>exact ⟨_,rfl,_,.non, "list",false,rfl,kk,rfl,rfl,_,rfl,iteF ⟨_,rfl,_,.tup, "tuple",true,rfl,k2,rfl,_,rfl,_,.non, "tuple",false,rfl,kk,rfl,rfl,_,rfl,iteT fin⟩⟩
    | bl _=>exact ⟨_,rfl,_,.bl, "list",false,rfl,kk,rfl,rfl,_,rfl,iteF ⟨_,rfl,_,.tup, "tuple",true,rfl,k2,rfl,_,rfl,_,.bl, "tuple",false,rfl,kk,rfl,rfl,_,rfl,iteT fin⟩⟩
    | int _=>exact ⟨_,rfl,_,.int, "list",false,rfl,kk,rfl,rfl,_,rfl,iteF ⟨_,rfl,_,.tup, "tuple",true,rfl,k2,rfl,_,rfl,_,.int, "tuple",false,rfl,kk,rfl,rfl,_,rfl,iteT fin⟩⟩
    | str _=>exact ⟨_,rfl,_,.str, "list",false,rfl,kk,rfl,rfl,_,rfl,iteF ⟨_,rfl,_,.tup, "tuple",true,rfl,k2,rfl,_,rfl,_,.str, "tuple",false,rfl,kk,rfl,rfl,_,rfl,iteT fin⟩⟩
    | lst _ _ _ _=>exact ⟨_,rfl,_,.lst, "list",true,rfl,kk,rfl,rfl,_,rfl,iteT (iteT fin)⟩
    | @tup a1 xs1 ds1 hq1 hl1 hz1 hx1 =>
     refine ⟨_,rfl,_,.tup, "list",false,rfl,kk,rfl,rfl,_,rfl,iteF ⟨_,rfl,_,.tup, "tuple",true,rfl,k2,rfl,_,rfl,_,.tup, "tuple",true,rfl,kk,rfl,rfl,_,rfl,iteF ?_⟩⟩
     refine ⟨_,rfl,a1,_,rfl,.inr hq1,_,rfl,a2,_,rfl,.inr hq2,rfl,_,rfl,?_⟩
     refine ite2 (fun c=>?_) (fun c=>?_)
     ·have c:V.int ((xs1.length:Nat):Int)=V.int ((xs2.length:Nat):Int):=of_decide_eq_true c
      have el:ds1.length=ds2.length:=by injection c with c; omega
      cases m with
      | zero=>exact absurd hd (by show ¬ 1 + _<=0; omega)
      | succ m =>
       refine ⟨_,rfl,a2,_,rfl,.inr hq2,_,rfl,by omega,by rw [hl2]; omega,fun p hp=>?_⟩
       have en:((xs2.length:Nat):Int).toNat=ds2.length:=by omega
       rw [en]
       refine blk_range (fun i σ H2=>∃ v,σ=[v,some (.ref a1),some (.ref a2)]/\Same H H2/\H2 p=some (.lst ((((ds1.zip ds2).map fun q=>q.1.eqb q.2).take i).map V.bl))) ⟨none,rfl,Same.new hp,upd_same⟩ ?_ ?_
       ·rintro i σ H2 hi ⟨v,rfl,s2,e2⟩
        have e1:ds1[i]? = some ds1[i]:=List.getElem?_eq_getElem (by omega)
        have e2':ds2[i]? = some ds2[i]:=List.getElem?_eq_getElem hi
        have f1:xs1[i]? = some xs1[i]:=List.getElem?_eq_getElem (by omega)
        have f2:xs2[i]? = some xs2[i]:=List.getElem?_eq_getElem (by omega)
        have ei:(0:Int) + (i:Int)=(i:Int):=Int.zero_add _
        refine turn_all ⟨_,rfl,_,rfl,.inr (.inl ⟨a1,_,_,_,rfl,rfl,s2.seqT hq1,(by rw [ei]; exact atI_nat f1),_,rfl,_,rfl,.inr (.inl ⟨a2,_,_,_,rfl,rfl,s2.seqT hq2,(by rw [ei]; exact atI_nat f2),?_⟩)⟩)⟩
        refine ⟨_,_,_,_,rfl,(hx1 i _ _ f1 e1).mono s2,(hx2 i _ _ f2 e2').mono s2,?_,fun H3 s3=>?_⟩
        ·have h1:1 + Dt.deep.deeps ds2<=m + 1:=hd
         have:=deep_mem e2'
         omega
        ·refine ⟨_,s3 p _ e2,?_,_,rfl,fun b o hb=>?_,?_⟩
         ·rw [List.length_map,List.length_take]
          exact small1000' (by omega)
         ·rw [upd_ne (ne_of_none hb hp)]
          exact s3 b o (s2 b o hb)
         ·rw [upd_same]
          have z:((ds1.zip ds2).map fun q=>q.1.eqb q.2)[i]? = some (ds1[i].eqb ds2[i]):=by
           rw [List.getElem?_map,(List.getElem?_zip_eq_some (z:=(ds1[i],ds2[i]))).mpr ⟨e1,e2'⟩]
           rfl
          rw [List.take_add_one,z,List.map_append]
          rfl
       ·rintro σ H2 ⟨v,rfl,s2,e2⟩
        have ek:((ds1.zip ds2).map fun q=>q.1.eqb q.2).take ds2.length=((ds1.zip ds2).map fun q=>q.1.eqb q.2):=List.take_of_length_le (by rw [List.length_map,List.length_zip]; omega)
        rw [ek] at e2
        refine ⟨p,_,rfl,SqL.of e2,?_⟩
        have:=k H2 s2
        have ee:(Dt.tup ds1).eqb (Dt.tup ds2)=((ds1.zip ds2).map fun q=>q.1.eqb q.2).all id:=eqbs_all ds1 ds2 el
        rw [ee] at this
        exact this
     ·have el:ds1.length≠ds2.length:=fun z=>c (decide_eq_true (by rw [hl1,hl2,z]))
      have ee:(Dt.tup ds1).eqb (Dt.tup ds2)=false:=eqbs_len ds1 ds2 el
      rw [ee] at fin
      exact fin
end
end K63
namespace L2
open PySem PySem.Spec PyProof.Rows
def tx (n:Nat) (c:Nat->Nat):Str:=⟨((List.range n).map c).toArray⟩
def s1 (c:Nat):V:=.str ⟨#[c]⟩
theorem tx_len (n:Nat) (c:Nat->Nat):(tx n c).length=n:=by show (((List.range n).map c).toArray).size=_; simp
theorem tx_at {n i:Nat}{c:Nat->Nat}(h:i < n):atI (tx n c).cps.toList (i:Int)=some (c i):=by
 refine atI_nat ?_
 show (((List.range n).map c).toArray.toList)[i]? = _
 simp [h]
theorem tx_snoc (i:Nat) (c:Nat->Nat):tx i c ++ (⟨#[c i]⟩:Str)=tx (i + 1) c:=by
 show (⟨((List.range i).map c).toArray ++ #[c i]⟩:Str)=⟨((List.range (i + 1)).map c).toArray⟩
 simp [List.range_succ]
theorem tx_snoc' {i:Nat}{c:Nat->Nat}{d:Nat}(h:d=c i):tx i c ++ (⟨#[d]⟩:Str)=tx (i + 1) c:=by rw [h]; exact tx_snoc i c
theorem tx_congr {n:Nat}{c d:Nat->Nat}(h:∀ i,i < n->c i=d i):tx n c=tx n d:=by
 unfold tx
 rw [List.map_congr_left fun i hi=>h i (List.mem_range.mp hi)]
theorem s1_eq (a b:Nat):(s1 a=s1 b)=(a=b):=propext ⟨fun h=>by
 have h:(⟨#[a]⟩:Str)=⟨#[b]⟩:=by injection h
 have h2 : #[a] = #[b]:=by injection h
 simpa using h2,fun h=>by rw [h]⟩
theorem dec_s1 (a b:Nat):decide (s1 a=s1 b)=decide (a=b):=decide_eq_decide.mpr (by rw [s1_eq])
theorem tx_rep (n:Nat):strRep ("-" : Str) (n:Int)=tx n (fun _=>45):=by
 have f:∀(k:Nat) (b:Array Nat),(List.replicate k (#[45]:Array Nat)).foldl (· ++ ·) b=b ++ (List.replicate k 45).toArray:=by
  intro k
  induction k with
  | zero=>intro b; simp
  | succ k ih =>
   intro b
   rw [List.replicate_succ,List.foldl_cons,ih,List.replicate_succ]
   show b ++ #[45] ++ _=_
   rw [Array.append_assoc]
   congr 1
   show (#[45]:Array Nat) ++ _=_
   rw [show (#[45]:Array Nat)=[45].toArray from rfl,List.append_toArray]
   rfl
 unfold strRep
 by_cases h0:(n:Int) < 1
 ·rw [if_pos h0]
  have:n=0:=by omega
  subst this
  rfl
 ·rw [if_neg h0]
  by_cases h1:n=1
  ·subst h1; rfl
  ·have e:(((n:Int) == 1) || (("-" : Str).length == 0))=false:=by
    have:((n:Int) == 1)=false:=by simpa using (by omega:¬ (n:Int)=1)
    rw [this]; rfl
   rw [e]
   show (⟨_⟩:Str)=⟨_⟩
   have e2:((List.range n).map fun _=>45)=List.replicate n 45:=by
    rw [List.eq_replicate_iff]
    exact ⟨by simp,fun b hb=>by obtain ⟨_,_,e⟩:=List.mem_map.mp hb; exact e.symm⟩
   rw [e2]
   congr 1
   show (List.replicate (n:Int).toNat (#[45]:Array Nat)).foldl (· ++ ·) #[]=_
   rw [f]
   show #[] ++ _=_
   rw [Array.empty_append]
   rfl
theorem glue_go:∀(l:List Nat) (b:Array Nat),(l.map fun d=>(⟨#[d]⟩:Str)).foldl (fun acc p=>acc ++ ("" : Str).cps ++ p.cps) b=b ++ l.toArray
 | [],b=>by simp
 | d :: r,b=>by
  rw [List.map_cons,List.foldl_cons,glue_go r]
  show b ++ #[] ++ #[d] ++ r.toArray=b ++ (d :: r).toArray
  have z:(#[d]:Array Nat) ++ r.toArray=(d :: r).toArray:=by
   rw [show (#[d]:Array Nat)=[d].toArray from rfl,List.append_toArray]
   rfl
  rw [Array.append_empty,Array.append_assoc,z]
theorem tx_join (n:Nat) (c:Nat->Nat):Txt.join ("" : Str) ((List.range n).map fun i=>(⟨#[c i]⟩:Str))=tx n c:=by
 have e:((List.range n).map fun i=>(⟨#[c i]⟩:Str))=((List.range n).map c).map fun d=>(⟨#[d]⟩:Str):=by rw [List.map_map]; rfl
 rw [e]
 unfold tx
 generalize (List.range n).map c=l
 show (⟨_⟩:Str)=_
 congr 1
 cases l with
 | nil=>rfl
 | cons d r =>
  show ((r.map fun d=>(⟨#[d]⟩:Str))).foldl (fun acc p=>acc ++ ("" : Str).cps ++ p.cps) #[d]=_
  rw [glue_go,show (#[d]:Array Nat)=[d].toArray from rfl,List.append_toArray]
  rfl
theorem joinlen (n:Nat) (c:Nat->Nat):((((List.range n).map fun i=>(⟨#[c i]⟩:Str)).map (·.length)).sum)=n:=by
 rw [List.map_map]
 have:((fun x:Str=>x.length) ∘ fun i=>(⟨#[c i]⟩:Str))=fun _=>1:=rfl
 rw [this,List.map_const',List.sum_replicate_nat,List.length_range,Nat.mul_one]
end L2
namespace L2
open PySem PySem.Spec PyProof.Rows
section
variable {p T:Addr}{K:PySem.W.Frag}{te:TE}{N:St->Hp->Prop}{x y z:V}{σ:St}{H:Hp}
theorem turn_tup2 (hT:H T=some (.tup [x,y])) (h:te ((σ.set 0 (some x)).set 1 (some y)) H fun v H4=>∃ ys,H4 p=some (.lst ys)/\ys.length < sizeLine/\N ((σ.set 0 (some x)).set 1 (some y)) (upd H4 p (.lst (ys ++ [v])))) :
  BlkTurn p (gTup K 2 (gCons (gName 0) (gCons (gName 1) gNil))) tAll te N (.ref T) σ H :=
 ⟨T,_,rfl,.inl (.inl hT),rfl,_,_,rfl,_,_,rfl,rfl,iteT (B:=N ((σ.set 0 (some x)).set 1 (some y)) H) h⟩
end
theorem Same.trans' {H H1 H2:Hp}(a:Same H H1) (b:Same H1 H2):Same H H2:=fun c o e=>b c o (a c o e)
theorem Same.grow {H H2:Hp}{p:Addr}{o:HO}(hp:H p=none) (s:Same H H2):Same H (upd H2 p o):=fun b u e=>by rw [upd_ne (ne_of_none e hp)]; exact s b u e
end L2
namespace L2
open PySem PySem.Spec PyProof.Rows
def intsOf:List Expr->Option (List Int)
 | []=>some []
 | .Constant (.int i) _ _ :: r=>(intsOf r).map (i :: ·)
 | _=>none
def tInts (l:List Int):TA:=fun _ H Q=>Q (l.map V.int) H
theorem pa_ints {X:Cx}:∀{es:List Expr}{l:List Int},intsOf es=some l->PA X es (tInts l)
 | [],l,h=>by cases h; exact pa_nil
 | .Constant (.int i) j p :: r,l,h=>by
  have h:(intsOf r).map (i :: ·)=some l:=h
  cases z:intsOf r with
  | none=>rw [z] at h; cases h
  | some l' =>
   rw [z] at h
   cases h
   exact pa_cons (e:=.Constant (.int i) j p) pe_int (pa_ints z) rfl
end L2
namespace K63
open PySem L2
abbrev s_not:Stmt:=top 50
abbrev s_bits:Stmt:=top 52
theorem map_snoc {α:Type}(f:Nat->α) (i:Nat):(List.range i).map f ++ [f i]=(List.range (i + 1)).map f:=by rw [List.range_succ,List.map_append]; rfl
theorem small_rng (n:Nat) {α:Type}(f:Nat->α) (h:n<=1000):((List.range n).map f).length < sizeLine:=by rw [List.length_map,List.length_range]; exact Nat.lt_of_le_of_lt h (by decide)
theorem map_bl (f:Nat->Bool) (n:Nat):((List.range n).map fun j=>V.bl (f j))=((List.range n).map f).map V.bl:=by rw [List.map_map]; rfl
def Bin (c:Nat->Nat):Prop:=∀ i,c i=121∨c i=110
def hv (d:Int) (x:Int):Nat->Int
 | 0=>x
 | i + 1=>hv d x i / d
def bitC (x:Int) (i:Nat):Nat:=if hv 2 x i % 2=0 then 110 else 121
theorem bit_bin (x:Int):Bin (bitC x):=fun i=>by unfold bitC; split <;> simp
theorem ny_at (y:Int):atI ("ny" : Str).cps.toList (y % 2)=some (if y % 2=0 then 110 else 121):=by
 by_cases h:y % 2=0
 ·rw [if_pos h,h]; rfl
 ·have:y % 2=1:=by omega
  rw [if_neg h,this]; rfl
theorem small_tx (n:Nat) (c:Nat->Nat) (h:n<=1000):(tx n c).length<=sizeLine:=by rw [tx_len]; exact Nat.le_trans h (by decide)
theorem small_add (n:Nat) (c:Nat->Nat) (d:Nat) (h:n<=1000):(tx n c).length + (⟨#[d]⟩:Str).length<=sizeLine:=by
 rw [tx_len]
 exact Nat.le_trans (show n + 1<=1001 by omega) (by decide)
section
variable {P:Program}{w:World}{K:PySem.W.Frag}{mg:Str->Option Value}{base:Heap}
def notM (c:Nat):Nat:=if c=121 then 110 else 121
def spNot:Sp:=fun vs H Q _=>∃ c,vs=[s1 c]/\Q (s1 (notM c)) H
theorem sc_not:FnScope ["_law_sign"] ["_law_sign"] (defScope s_not):=⟨rfl,rfl,rfl,by decide +kernel,rfl,by decide +kernel,by decide +kernel⟩
theorem ok_not {f:Addr}{fd:FuncData}(D:Df K mg "_law_not" s_not ["_law_sign"] f fd) (B:Bt mg):FnOk P w K mg base (CXE P w) 1 f fd ["_law_sign"] spNot:=by
 refine D.F.okN sc_not (fun vs H Q E h=>?_) (fun cdv A outer s H vs Q E hr h=>?_)
 ·obtain ⟨c,rfl,_⟩:=h
  rfl
 ·obtain ⟨c,rfl,q⟩:=h
  refine ⟨_,pss_one (ps_ret (pe_ifExp (pt_cmpR op_eq (pv 0) pe_str (nomark _)) pe_str pe_str)),?_⟩
  refine ⟨_,rfl,rfl,_,rfl,?_⟩
  refine ite2 (fun z=>?_) (fun z=>?_)
  ·have z:s1 c=s1 121:=of_decide_eq_true z
   rw [s1_eq] at z
   rw [z] at q
   exact q
  ·have z:¬ s1 c=s1 121:=fun y=>z (decide_eq_true y)
   rw [s1_eq] at z
   have e:notM c=121:=if_neg z
   rw [e] at q
   exact q
def spBits:Sp:=fun vs H Q _=>∃(x:Int) (n:Nat),vs=[.int x,.int n]/\n<=100/\Q (.str (tx n (bitC x))) H
abbrev Nb:List Str:=["_law_number", "_law_n", "_law_row", "_law_k"]
theorem sc_bits:FnScope Nb ["_law_number", "_law_n"] (defScope s_bits):=⟨rfl,rfl,rfl,by decide +kernel,rfl,by decide +kernel,by decide +kernel⟩
theorem ok_bits {f:Addr}{fd:FuncData}(D:Df K mg "_law_bits" s_bits ["_law_number", "_law_n"] f fd) (B:Bt mg):FnOk P w K mg base (CXE P w) 1 f fd ["_law_number", "_law_n"] spBits:=by
 refine D.F.okN sc_bits (fun vs H Q E h=>?_) (fun cdv A outer s H vs Q E hr h=>?_)
 ·obtain ⟨x,n,rfl,_⟩:=h
  rfl
 ·obtain ⟨x,n,rfl,hn,q⟩:=h
  refine ⟨_,pss_cons (ps_set (i:=2) sc_bits.nd rfl (Or.inl rfl) pe_str)
   (pss_cons (ps_for PassesOwn.never rfl (pi_range1 (by rfl) B.range (pa_cons (pv 1) pa_nil)) (pg_name (i:=3) sc_bits.nd rfl (Or.inl rfl))
    (pss_cons (ps_set (i:=2) sc_bits.nd rfl (Or.inl rfl) (pe_op op_add_str (pv 2) (pe_ix ix_str pe_str (pe_op op_mod (pv 0) pe_int) (fun _ _=>rfl))))
    (pss_one (ps_set (i:=0) sc_bits.nd rfl (Or.inl rfl) (pe_op op_fdiv (pv 0) pe_int)))))
   (pss_one (ps_ret (pv 2)))),?_⟩
  refine ⟨_,rfl,_,rfl,by omega,by omega,?_⟩
  have en:((n:Nat):Int).toNat=n:=by omega
  rw [en]
  refine for_range (fun i σ H2=>∃ v,σ=[some (.int (hv 2 x i)),some (.int n),some (.str (tx i (bitC x))),v]/\H2=H) ⟨none,rfl,rfl⟩ ?_ ?_
  ·rintro i σ H2 hi ⟨v,rfl,rfl⟩
   refine ⟨_,rfl,_,rfl,_,_,rfl,rfl,(by show (0:Int) < 2; decide),_,_,_,rfl,rfl,(by decide),ny_at _,_,_,rfl,rfl,small_add i _ _ (by omega),?_⟩
   refine ⟨_,rfl,_,_,rfl,rfl,⟨by decide,by decide⟩,?_⟩
   refine ⟨some (.int (0 + i)),?_,rfl⟩
   rw [tx_snoc' (show (if hv 2 x i % 2=0 then 110 else 121)=bitC x i from rfl)]
   rfl
  ·rintro σ H2 ⟨v,rfl,rfl⟩
   exact ⟨_,rfl,q⟩
end
end K63
namespace K63
open PySem L2
abbrev s_hidden:Stmt:=top 51
def cb (b:Bool):Nat:=if b then 121 else 110
theorem cb_bin (f:Nat->Bool):Bin fun j=>cb (f j):=fun j=>by
 show cb (f j)=121∨cb (f j)=110
 cases f j
 ·exact .inr rfl
 ·exact .inl rfl
theorem ny_b (b:Bool):atI ("ny" : Str).cps.toList (if b then 1 else 0)=some (cb b):=by cases b <;> rfl
theorem none_of_upd {H:Hp}{r p:Addr}{o:HO}(h:upd H r o p=none):H p=none:=by
 by_cases e:p=r
 ·subst e; rw [upd_same] at h; cases h
 ·rw [upd_ne e] at h; exact h
theorem put_last {α β:Type}(F:β->α) (f:Nat->β) (d:β) (i:Nat):(List.range i).map (fun j=>F (f j)) ++ [F d]=(List.range (i + 1)).map fun j=>F ((fun j=>if j=i then d else f j) j):=by
 rw [<- map_snoc]
 congr 1
 ·refine List.map_congr_left fun j hj=>?_
  show F (f j)=F (if j=i then d else f j)
  rw [if_neg (Nat.ne_of_lt (List.mem_range.mp hj))]
 ·show [F d]=[F (if i=i then d else f i)]
  rw [if_pos rfl]
section
variable {P:Program}{w:World}{K:PySem.W.Frag}{mg:Str->Option Value}{base:Heap}
def spHid (K:PySem.W.Frag):Sp:=fun vs H Q _=>∃(a:Addr) (ps:List Int) (p0:Int) (m:Nat) (x:Int),vs=[.ref a,.int m,.int x]/\SqL K H a (ps.map V.int)/\ps[0]? = some p0/\1<=m/\m<=12 /\
 ∀ q H' c,Bin c->Same H H'->H q=none->H' q=some (.lst ((List.range m).map fun j=>s1 (c j)))->Q (.ref q) H'
abbrev Nh:List Str:=["_law_plan_here", "_law_m", "_law_number", "_law_k", "_law_ends", "_law_row"]
abbrev Ph:List Str:=["_law_plan_here", "_law_m", "_law_number"]
theorem sc_hidden:FnScope Nh Ph (defScope s_hidden):=⟨rfl,rfl,rfl,by decide +kernel,rfl,by decide +kernel,by decide +kernel⟩
theorem nd_h1:(["_law_k", "_law_m", "_law_number"]:List Str).Nodup:=by decide +kernel
theorem nd_h2:(["_law_k", "_law_ends"]:List Str).Nodup:=by decide +kernel
theorem ints_at {ps:List Int}{i:Nat}{d:Int}(h:ps[i]? = some d):atI (ps.map V.int) (i:Int)=some (.int d):=atI_nat (by rw [List.getElem?_map,h]; rfl)
theorem ok_hidden {f:Addr}{fd:FuncData}(D:Df K mg "_law_hidden" s_hidden Ph f fd) (B:Bt mg):FnOk P w K mg base (CXE P w) 1 f fd Ph (spHid K):=by
 refine D.F.okN sc_hidden (fun vs H Q E h=>?_) (fun cdv A outer s H vs Q E hr h=>?_)
 ·obtain ⟨a,ps,p0,m,x,rfl,_⟩:=h
  rfl
 ·obtain ⟨a,ps,p0,m,x,rfl,hS,hp0,m1,m12,k⟩:=h
  refine ⟨_,pss_cons (ps_if (pt_cmpR op_eq (pe_ix ix_list (pv 0) pe_int (fun _ _=>rfl)) pe_int (nomark _))
    (pss_one (ps_ret (pe_comp (N':=["_law_k", "_law_m", "_law_number"]) (fm:=[none,some 1,some 2]) rfl ⟨rfl,by decide +kernel,by decide +kernel,rfl,rfl,rfl⟩
     (pi_range1 (by rfl) B.range (pa_cons (pv 1) pa_nil)) (fun _ _ _ _=>pg_name (i:=0) nd_h1 rfl (Or.inl rfl)) (fun _ _ _ _=>pif_nil)
     (fun _ _ _ _=>pe_ix ix_str pe_str (pe_callTy call_int1 (by rfl) B.int (by rfl) (pa_cons (pe_cmpR op_lt (pv 0) (pe_op op_mod (pv 2) (pe_op op_add (pv 1) pe_int)) (nomark _)) pa_nil)) (fun _ _=>rfl))))) pss_nil)
   (pss_cons (ps_if (pt_cmpR op_eq (pe_ix ix_list (pv 0) pe_int (fun _ _=>rfl)) pe_int (nomark _))
    (pss_cons (ps_set (i:=4) sc_hidden.nd rfl (Or.inr rfl) (pe_lst (pa_cons (pe_op op_mod (pv 2) (pe_op op_add (pv 1) pe_int)) (pa_cons (pe_op op_mod (pe_op op_fdiv (pv 2) pe_int) (pe_op op_add (pv 1) pe_int)) pa_nil))))
    (pss_one (ps_ret (pe_comp (N':=["_law_k", "_law_ends"]) (fm:=[none,some 4]) rfl ⟨rfl,by decide +kernel,by decide +kernel,rfl,rfl,rfl⟩
     (pi_range1 (by rfl) B.range (pa_cons (pv 1) pa_nil)) (fun _ _ _ _=>pg_name (i:=0) nd_h2 rfl (Or.inl rfl)) (fun _ _ _ _=>pif_nil)
     (fun _ _ _ _=>pe_ix ix_str pe_str (pe_callTy call_int1 (by rfl) B.int (by rfl) (pa_cons (pe_cmpR op_lt (pv 0) (pe_ix (r:=rIxL K) ix_list (pv 1) (pe_op op_mod (pv 0) pe_int) (fun _ _=>rfl)) (nomark _)) pa_nil)) (fun _ _=>rfl)))))) pss_nil)
   (pss_cons (ps_if (pt_cmpR op_eq (pe_ix ix_list (pv 0) pe_int (fun _ _=>rfl)) pe_int (nomark _))
    (pss_one (ps_ret (pe_comp (N':=["_law_k", "_law_m", "_law_number"]) (fm:=[none,some 1,some 2]) rfl ⟨rfl,by decide +kernel,by decide +kernel,rfl,rfl,rfl⟩
     (pi_range1 (by rfl) B.range (pa_cons (pv 1) pa_nil)) (fun _ _ _ _=>pg_name (i:=0) nd_h1 rfl (Or.inl rfl)) (fun _ _ _ _=>pif_nil)
     (fun _ _ _ _=>pe_ix ix_str pe_str (pe_callTy call_int1 (by rfl) B.int (by rfl) (pa_cons (pe_cmpR (r:=rIn K false) op_in_seq (pv 0) (pe_tup (pa_cons (pe_op op_mod (pv 2) (pv 1)) (pa_cons (pe_op op_mod (pe_op op_fdiv (pv 2) pe_int) (pe_op op_add (pv 1) pe_int)) pa_nil))) (by rfl)) pa_nil)) (fun _ _=>rfl))))) pss_nil)
   (pss_cons (ps_set (i:=5) sc_hidden.nd rfl (Or.inl rfl) (pe_lst (pa_cons (pe_ix ix_str pe_str (pe_op op_mod (pe_op op_fdiv (pv 2) pe_int) pe_int) (fun _ _=>rfl)) pa_nil)))
   (pss_cons (ps_for PassesOwn.never rfl (pi_range2 (by rfl) B.range (pa_cons pe_int (pa_cons (pv 1) pa_nil))) (pg_name (i:=3) sc_hidden.nd rfl (Or.inl rfl))
    (pss_one (ps_expr (pe_bm PySem.F.plainAttrs_list PySem.F.slot_list_append PySem.F.type_list_append mt_append (pv 5) (pa_cons
     (pe_ifExp (PW.pt (pw_or (pt_cmpR op_eq (pe_ix ix_list (pv 5) (pe_op op_fdiv (pe_op op_sub (pv 3) pe_int) pe_int) (fun _ _=>rfl)) pe_str (nomark _)) (pw_or1 (pt_cmpR op_eq (pe_op op_mod (pe_op op_fdiv (pv 2) (pe_op op_add pe_int (pv 3))) pe_int) pe_int (nomark _))))) pe_str pe_str) pa_nil)))))
   (pss_one (ps_ret (pv 5))))))),?_⟩
  have h0:atI (ps.map V.int) 0=some (.int p0):=ints_at (i:=0) hp0
  have mI:(0:Int) < (m:Int) + 1:=by omega
  have mI0:(0:Int) < (m:Int):=by omega
  have en:((m:Nat):Int).toNat=m:=by omega
  refine ⟨_,rfl,a,_,_,_,rfl,rfl,hS,h0,rfl,_,rfl,ite2 (fun _=>?_) (fun _=>?_)⟩
  ·refine ⟨_,rfl,_,rfl,by omega,by omega,fun p hp=>?_⟩
   rw [en]
   refine blk_range (fun i σ H2=>∃ v,σ=[v,some (.int m),some (.int x)]/\Same H H2/\H2 p=some (.lst ((List.range i).map fun j:Nat=>s1 (cb (decide ((0:Int) + (j:Int) < x % ((m:Int) + 1))))))) ⟨none,rfl,Same.new hp,upd_same⟩ ?_ ?_
   ·rintro i σ H2 hi ⟨v,rfl,s2,e2⟩
    refine turn_all ⟨_,rfl,_,rfl,_,rfl,_,_,rfl,rfl,_,_,rfl,rfl,mI,_,_,rfl,rfl,.inr ⟨_,rfl,?_⟩⟩
    refine ⟨_,_,_,rfl,rfl,(by decide),ny_b _,_,e2,small_rng _ _ (by omega),_,rfl,Same.grow hp s2,?_⟩
    rw [upd_same,<- map_snoc]
    rfl
   ·rintro σ H2 ⟨v,rfl,s2,e2⟩
    exact k p H2 _ (cb_bin _) s2 hp e2
  refine ⟨_,rfl,a,_,_,_,rfl,rfl,hS,h0,rfl,_,rfl,ite2 (fun _=>?_) (fun _=>?_)⟩
  ·refine ⟨_,rfl,_,rfl,_,_,rfl,rfl,_,_,rfl,rfl,mI,_,rfl,_,_,rfl,rfl,⟨by decide,by decide⟩,_,rfl,_,_,rfl,rfl,_,_,rfl,rfl,mI,Nat.le_trans (show 2<=2 from Nat.le_refl 2) (by decide),fun r hr0=>?_⟩
   refine ⟨_,rfl,_,rfl,by omega,by omega,fun p hp=>?_⟩
   rw [en]
   have hpH:H p=none:=none_of_upd hp
   have s0:Same H (upd H r (.lst [.int (x % ((m:Int) + 1)),.int (x / 64 % ((m:Int) + 1))])):=Same.new hr0
   have ap:∀ i:Nat,∃ e:Int,atI [V.int (x % ((m:Int) + 1)),V.int (x / 64 % ((m:Int) + 1))] ((0 + (i:Int)) % 2)=some (.int e):=fun i=>by
    rcases (show (0 + (i:Int)) % 2=0∨(0 + (i:Int)) % 2=1 by omega) with z | z
    ·rw [z]; exact ⟨_,rfl⟩
    ·rw [z]; exact ⟨_,rfl⟩
   refine blk_range (fun i σ H2=>∃ v f,σ=[v,some (.ref r)]/\Same (upd H r (.lst [.int (x % ((m:Int) + 1)),.int (x / 64 % ((m:Int) + 1))])) H2/\H2 p=some (.lst ((List.range i).map fun j=>s1 (cb (f j))))) ⟨none,fun _=>true,rfl,Same.new hp,upd_same⟩ ?_ ?_
   ·rintro i σ H2 hi ⟨v,f,rfl,s2,e2⟩
    obtain ⟨e,he⟩:=ap i
    refine turn_all ⟨_,rfl,_,rfl,_,rfl,_,_,rfl,rfl,(by show (0:Int) < 2; decide),r,_,_,_,rfl,rfl,SqL.of (s2 r _ upd_same),he,_,_,rfl,rfl,.inr ⟨_,rfl,?_⟩⟩
    refine ⟨_,_,_,rfl,rfl,(by decide),ny_b _,_,e2,small_rng _ _ (by omega),_,fun j=>if j=i then decide ((0:Int) + (i:Int) < e) else f j,rfl,Same.grow hp s2,?_⟩
    rw [upd_same]
    exact congrArg (fun z=>some (HO.lst z)) (put_last (fun b=>s1 (cb b)) f _ i)
   ·rintro σ H2 ⟨v,f,rfl,s2,e2⟩
    exact k p H2 _ (cb_bin _) (s0.trans' s2) hpH e2
  refine ⟨_,rfl,a,_,_,_,rfl,rfl,hS,h0,rfl,_,rfl,ite2 (fun _=>?_) (fun _=>?_)⟩
  ·refine ⟨_,rfl,_,rfl,by omega,by omega,fun p hp=>?_⟩
   rw [en]
   refine blk_range (fun i σ H2=>∃ v f,σ=[v,some (.int m),some (.int x)]/\Same H H2/\H2 p=some (.lst ((List.range i).map fun j=>s1 (cb (f j))))) ⟨none,fun _=>true,rfl,Same.new hp,upd_same⟩ ?_ ?_
   ·rintro i σ H2 hi ⟨v,f,rfl,s2,e2⟩
    refine turn_all ⟨_,rfl,_,rfl,_,rfl,_,_,rfl,rfl,mI0,_,rfl,_,_,rfl,rfl,⟨by decide,by decide⟩,_,rfl,_,_,rfl,rfl,_,_,rfl,rfl,mI,Nat.le_trans (show 2<=2 from Nat.le_refl 2) (by decide),fun T hT=>?_⟩
    refine ⟨T,_,rfl,.inr (.inl (.inl upd_same)),rfl,rfl,.inr ⟨_,rfl,?_⟩⟩
    refine ⟨_,_,_,rfl,rfl,(by decide),ny_b _,_,Same.new hT p _ e2,small_rng _ _ (by omega),_,fun j=>if j=i then (inV (.int (0 + (i:Int))) [.int (x % m),.int (x / 64 % ((m:Int) + 1))]) else f j,rfl,Same.grow hp (s2.trans' (Same.new hT)),?_⟩
    rw [upd_same]
    exact congrArg (fun z=>some (HO.lst z)) (put_last (fun b=>s1 (cb b)) f _ i)
   ·rintro σ H2 ⟨v,f,rfl,s2,e2⟩
    exact k p H2 _ (cb_bin _) s2 hp e2
  ·refine ⟨_,rfl,_,_,rfl,rfl,⟨by decide,by decide⟩,_,_,rfl,rfl,(by show (0:Int) < 2; decide),_,_,_,rfl,rfl,(by decide),ny_at _,Nat.le_trans (show 1<=1 from Nat.le_refl 1) (by decide),fun p hp=>?_⟩
   refine ⟨_,rfl,1,_,rfl,⟨by decide,by decide,by omega,by omega⟩,?_⟩
   have en1:((m:Int) - 1).toNat=m - 1:=by omega
   rw [en1]
   refine for_range (fun i σ H2=>∃ v c,σ=[some (.ref a),some (.int m),some (.int x),v,none,some (.ref p)]/\Bin c/\Same H H2/\H2 p=some (.lst ((List.range (i + 1)).map fun j=>s1 (c j)))) ⟨none,fun _=>(if x / 3 % 2=0 then 110 else 121),rfl,(fun _=>by split <;> simp),Same.new hp,upd_same⟩ ?_ ?_
   ·rintro i σ H2 hi ⟨v,c,rfl,hc,s2,e2⟩
    have fin:∀ d,(d=121∨d=110)->∃ v' c',[some (.ref a),some (.int m),some (.int x),some (.int (1 + (i:Int))),none,some (.ref p)]=[some (V.ref a),some (V.int m),some (V.int x),v',none,some (V.ref p)]/\Bin c'/\Same H (upd H2 p (.lst (((List.range (i + 1)).map fun j=>s1 (c j)) ++ [s1 d]))) /\
      upd H2 p (.lst (((List.range (i + 1)).map fun j=>s1 (c j)) ++ [s1 d])) p=some (.lst ((List.range (i + 1 + 1)).map fun j=>s1 (c' j))):=fun d hd=>by
     refine ⟨_,fun j=>if j=i + 1 then d else c j,rfl,fun j=>?_,Same.grow hp s2,?_⟩
     ·show (if j=i + 1 then d else c j)=121∨(if j=i + 1 then d else c j)=110
      split
      ·exact hd
      ·exact hc j
     ·rw [upd_same]
      exact congrArg (fun z=>some (HO.lst z)) (put_last s1 c d (i + 1))
    have ix:atI ((List.range (i + 1)).map fun j=>s1 (c j)) ((1 + (i:Int) - 1) / 2)=some (s1 (c (i / 2))):=by
     have e:(1 + (i:Int) - 1) / 2=((i / 2:Nat):Int):=by omega
     rw [e]
     refine atI_nat ?_
     rw [List.getElem?_map,List.getElem?_range (by omega)]
     rfl
    have il:((List.range (i + 1)).map fun j=>s1 (c j)).length < sizeLine:=small_rng _ _ (by omega)
    refine ⟨_,rfl,.inl ⟨rfl,_,SqL.of e2⟩,_,rfl,_,rfl,_,_,rfl,rfl,_,_,rfl,rfl,⟨by decide,by decide⟩,p,_,_,_,rfl,rfl,SqL.of e2,ix,rfl,_,rfl,ite2 (fun _=>?_) (fun _=>?_)⟩
    ·exact iteT ⟨p,_,_,rfl,rfl,e2,il,fin 110 (.inr rfl)⟩
    ·refine ⟨_,rfl,_,rfl,_,_,rfl,rfl,_,_,rfl,rfl,⟨(by show (0:Int) < 3 + (1 + (i:Int)); omega),(by show (3:Int) + (1 + (i:Int)) < 1073741824; omega)⟩,_,_,rfl,rfl,(by show (0:Int) < 3; decide),rfl,_,rfl,ite2 (fun _=>?_) (fun _=>?_)⟩
     ·exact ⟨p,_,_,rfl,rfl,e2,il,fin 110 (.inr rfl)⟩
     ·exact ⟨p,_,_,rfl,rfl,e2,il,fin 121 (.inl rfl)⟩
   ·rintro σ H2 ⟨v,c,rfl,hc,s2,e2⟩
    rw [show m - 1 + 1=m by omega] at e2
    exact ⟨_,rfl,k p H2 c hc s2 hp e2⟩
end
end K63
namespace K63
open PySem L2
abbrev s_rowby:Stmt:=top 53
abbrev s_plan:Stmt:=top 54
abbrev s_rows:Stmt:=top 55
abbrev s_count:Stmt:=top 49
abbrev Pb:List Str:=["_law_number", "_law_n"]
abbrev Pdr:List Str:=["_law_cell_here", "_law_parts"]
section
variable {P:Program}{w:World}{K:PySem.W.Frag}{mg:Str->Option Value}{base:Heap}
def spRowBy (K:PySem.W.Frag):Sp:=fun vs H Q _=>∃(x:Int) (n:Nat) (a:Addr) (p0 p1 p2 p3 p4:Int),vs=[.int x,.int n,.ref a]/\SqL K H a ([p0,p1,p2,p3,p4].map V.int)/\1<=n/\n<=12/\∀ H' c,Bin c->Same H H'->Q (.str (tx n c)) H'
abbrev Nr:List Str:=["_law_number", "_law_n", "_law_plan_here", "_law_m", "_law_hidden_here", "_law_flips", "_law_row", "_law_q", "_law_sign"]
abbrev Pr:List Str:=["_law_number", "_law_n", "_law_plan_here"]
theorem sc_rowby:FnScope Nr Pr (defScope s_rowby):=⟨rfl,rfl,rfl,by decide +kernel,rfl,by decide +kernel,by decide +kernel⟩
theorem not_bin {c:Nat}(h:c=121∨c=110):notM c=121∨notM c=110:=by
 unfold notM
 split
 ·exact .inr rfl
 ·exact .inl rfl
theorem tx_put (c:Nat->Nat) (d i:Nat):tx i c ++ (⟨#[d]⟩:Str)=tx (i + 1) fun j=>if j=i then d else c j:=by
 have e:tx i c=tx i fun j=>if j=i then d else c j:=tx_congr fun j hj=>by rw [if_neg (Nat.ne_of_lt hj)]
 rw [e]
 exact tx_snoc' (by rw [if_pos rfl])
theorem bin_put {c:Nat->Nat}{d i:Nat}(hc:Bin c) (hd:d=121∨d=110):Bin fun j=>if j=i then d else c j:=fun j=>by
 show (if j=i then d else c j)=121∨(if j=i then d else c j)=110
 split
 ·exact hd
 ·exact hc j
theorem ok_rowby {f fb fh fn:Addr}{fd gb gh gn:FuncData}(D:Df K mg "_law_row_by" s_rowby Pr f fd) (Db:Df K mg "_law_bits" s_bits Pb fb gb) (Dh:Df K mg "_law_hidden" s_hidden Ph fh gh) (Dn:Df K mg "_law_not" s_not ["_law_sign"] fn gn) (B:Bt mg):FnOk P w K mg base (CXE P w) 2 f fd Pr (spRowBy K):=by
 refine D.F.okN sc_rowby (fun vs H Q E h=>?_) (fun cdv A outer s H vs Q E hr h=>?_)
 ·obtain ⟨x,n,a,p0,p1,p2,p3,p4,rfl,_⟩:=h
  rfl
 ·obtain ⟨x,n,a,p0,p1,p2,p3,p4,rfl,hS,n1,n12,k⟩:=h
  refine ⟨_,pss_cons (ps_if (PW.pt (pw_or (pt_cmpR op_eq (pe_ix ix_list (pv 2) pe_int (fun _ _=>rfl)) pe_int (nomark _)) (pw_or1 (pt_cmpR op_eq (pe_op op_mod (pv 0) pe_int) pe_int (nomark _)))))
    (pss_one (ps_ret (pe_fn Db (ok_bits Db B) hr passN (pa_cons (pv 0) (pa_cons (pv 1) pa_nil))))) pss_nil)
   (pss_cons (ps_set (i:=3) sc_rowby.nd rfl (Or.inl rfl) (pe_op op_add pe_int (pe_op op_mod (pe_ix ix_list (pv 2) pe_int (fun _ _=>rfl)) (pv 1))))
   (pss_cons (ps_set (i:=4) sc_rowby.nd rfl (Or.inl rfl) (pe_fn Dh (ok_hidden Dh B) hr passN (pa_cons (pv 2) (pa_cons (pv 3) (pa_cons (pv 0) pa_nil)))))
   (pss_cons (ps_set (i:=5) sc_rowby.nd rfl (Or.inl rfl) (pe_fn Db (ok_bits Db B) hr passN (pa_cons (pe_ix ix_list (pv 2) pe_int (fun _ _=>rfl)) (pa_cons (pv 1) pa_nil))))
   (pss_cons (ps_set (i:=6) sc_rowby.nd rfl (Or.inl rfl) pe_str)
   (pss_cons (ps_for PassesOwn.never rfl (pi_range1 (by rfl) B.range (pa_cons (pv 1) pa_nil)) (pg_name (i:=7) sc_rowby.nd rfl (Or.inl rfl))
    (pss_cons (ps_set (i:=8) sc_rowby.nd rfl (Or.inl rfl) (pe_ix ix_list (pv 4) (pe_op op_mod (pe_op op_add (pv 7) (pe_op op_mul (pe_op op_fdiv (pv 7) pe_int) (pe_ix ix_list (pv 2) pe_int (fun _ _=>rfl)))) (pv 3)) (fun _ _=>rfl)))
    (pss_one (ps_set (i:=6) sc_rowby.nd rfl (Or.inl rfl) (pe_op op_add_str (pv 6) (pe_ifExp (pt_cmpR op_eq (pe_ix ix_str (pv 5) (pv 7) (fun _ _=>rfl)) pe_str (nomark _)) (pe_fn Dn (ok_not Dn B) hr passN (pa_cons (pv 8) pa_nil)) (pv 8)))))))
   (pss_one (ps_ret (pv 6)))))))),?_⟩
  have bits:Q (.str (tx n (bitC x))) H:=k H _ (bit_bin x) (Same.refl H)
  refine ⟨_,rfl,a,_,_,_,rfl,rfl,hS,rfl,rfl,_,rfl,ite2 (fun _=>?_) (fun _=>?_)⟩
  ·exact iteT ⟨_,rfl,_,rfl,x,n,rfl,by omega,bits⟩
  refine ⟨_,rfl,_,_,rfl,rfl,(by show (0:Int) < 31; decide),rfl,_,rfl,ite2 (fun _=>?_) (fun _=>?_)⟩
  ·exact ⟨_,rfl,_,rfl,x,n,rfl,by omega,bits⟩
  have nI:(0:Int) < (n:Int):=by omega
  have mb:0<=p1 % (n:Int)/\p1 % (n:Int) < n:=⟨Int.emod_nonneg _ (by omega),Int.emod_lt_of_pos _ nI⟩
  refine ⟨_,rfl,a,_,_,_,rfl,rfl,hS,rfl,_,rfl,_,_,rfl,rfl,nI,_,_,rfl,rfl,?_⟩
  obtain ⟨m,hm⟩:∃ m:Nat,(m:Int)=1 + p1 % (n:Int):=⟨(1 + p1 % (n:Int)).toNat,by omega⟩
  refine ⟨_,rfl,_,rfl,_,rfl,a,_,p0,m,x,(by rw [hm]; rfl),hS,rfl,by omega,by omega,fun q H1 hc hb s1' hq e1=>?_⟩
  refine ⟨_,rfl,a,_,_,_,rfl,rfl,s1'.seq hS,rfl,_,rfl,p2,n,rfl,by omega,?_⟩
  refine ⟨_,rfl,_,rfl,by omega,by omega,?_⟩
  have en:((n:Nat):Int).toNat=n:=by omega
  rw [en]
  have mI:(0:Int) < 1 + p1 % (n:Int):=by omega
  refine for_range (fun i σ H2=>∃ v u c,σ=[some (.int x),some (.int n),some (.ref a),some (.int (1 + p1 % (n:Int))),some (.ref q),some (.str (tx n (bitC p2))),some (.str (tx i c)),v,u]/\Bin c/\H2=H1) ⟨none,none,fun _=>121,rfl,fun _=>.inl rfl,rfl⟩ ?_ ?_
  ·rintro i σ H2 hi ⟨v,u,c,rfl,hcb,rfl⟩
   have ei:(0:Int) + (i:Int)=(i:Int):=Int.zero_add _
   have jb:0<=(0 + (i:Int) + (0 + (i:Int)) / 2 * p3) % (1 + p1 % (n:Int))/\(0 + (i:Int) + (0 + (i:Int)) / 2 * p3) % (1 + p1 % (n:Int)) < 1 + p1 % (n:Int):=⟨Int.emod_nonneg _ (by omega),Int.emod_lt_of_pos _ mI⟩
   obtain ⟨j,hj⟩:∃ j:Nat,(j:Int)=(0 + (i:Int) + (0 + (i:Int)) / 2 * p3) % (1 + p1 % (n:Int)):=⟨((0 + (i:Int) + (0 + (i:Int)) / 2 * p3) % (1 + p1 % (n:Int))).toNat,by omega⟩
   have jm:j < m:=by omega
   have ix:atI ((List.range m).map fun j=>s1 (hc j)) ((0 + (i:Int) + (0 + (i:Int)) / 2 * p3) % (1 + p1 % (n:Int)))=some (s1 (hc j)):=by
    rw [<- hj]
    refine atI_nat ?_
    rw [List.getElem?_map,List.getElem?_range jm]
    rfl
   refine ⟨_,rfl,_,rfl,_,rfl,_,_,rfl,rfl,⟨by decide,by decide⟩,_,rfl,a,_,_,_,rfl,rfl,s1'.seq hS,rfl,_,_,rfl,rfl,.inl ⟨?_,?_⟩,_,_,rfl,rfl,_,rfl,_,_,rfl,rfl,mI,q,_,_,_,rfl,rfl,SqL.of e1,ix,?_⟩
   ·show -(2 ^ 64) < (0 + (i:Int)) / 2; omega
   ·show (0 + (i:Int)) / 2 < 2 ^ 64; omega
   refine ⟨_,rfl,_,rfl,_,rfl,_,_,_,rfl,rfl,small_tx _ _ (by omega),(by rw [ei]; exact tx_at hi),rfl,_,rfl,ite2 (fun _=>?_) (fun _=>?_)⟩
   ·refine ⟨_,rfl,hc j,rfl,_,_,rfl,rfl,small_add i _ _ (by omega),some (.int (0 + (i:Int))),some (s1 (hc j)),fun z=>if z=i then notM (hc j) else c z,?_,bin_put hcb (not_bin (hb j)),rfl⟩
    rw [tx_put c (notM (hc j)) i]
    rfl
   ·refine ⟨_,rfl,_,_,rfl,rfl,small_add i _ _ (by omega),some (.int (0 + (i:Int))),some (s1 (hc j)),fun z=>if z=i then hc j else c z,?_,bin_put hcb (hb j),rfl⟩
    rw [tx_put c (hc j) i]
    rfl
  ·rintro σ H2 ⟨v,u,c,rfl,hcb,rfl⟩
   exact ⟨_,rfl,k H2 c hcb s1'⟩
def spPlan:Sp:=fun vs H Q _=>∃ c:Int,vs=[.int c]/\∀ q H' (p0 p1 p2 p3 p4:Int),Same H H'->H q=none->H' q=some (.lst ([p0,p1,p2,p3,p4].map V.int))->Q (.ref q) H'
theorem sc_plan:FnScope ["_law_cell_here"] ["_law_cell_here"] (defScope s_plan):=⟨rfl,rfl,rfl,by decide +kernel,rfl,by decide +kernel,by decide +kernel⟩
theorem len_le {n:Nat}(h:n<=100):n<=sizeLine:=Nat.le_trans h (by decide)
theorem ok_plan {f fr:Addr}{fd gr:FuncData}(D:Df K mg "_law_plan" s_plan ["_law_cell_here"] f fd) (Dr:Df K mg "_law_draws" s_draws Pdr fr gr) (B:Bt mg):FnOk P w K mg base (CXE P w) 2 f fd ["_law_cell_here"] spPlan:=by
 refine D.F.okN sc_plan (fun vs H Q E h=>?_) (fun cdv A outer s H vs Q E hr h=>?_)
 ·obtain ⟨c,rfl,_⟩:=h
  rfl
 ·obtain ⟨c,rfl,k⟩:=h
  refine ⟨_,pss_one (ps_ret (pe_fn Dr (ok_draws Dr B) hr passN (pa_cons (pv 0) (pa_cons (pe_lst (pa_cons pe_int (pa_cons pe_int (pa_cons pe_int (pa_cons pe_int (pa_cons pe_int pa_nil)))))) pa_nil)))),?_⟩
  refine ⟨_,rfl,len_le (show 5<=100 by decide),fun p hp=>?_⟩
  refine ⟨c,p,[5,12,8192,7,8192],rfl,SqL.of upd_same,by decide,by decide,fun q H' sm hq e=>?_⟩
  exact k q H' _ _ _ _ _ ((Same.new hp).trans' sm) (none_of_upd hq) e
def spRows (K:PySem.W.Frag):Sp:=fun vs H Q _=>∃(a:Addr) (xs:List Int) (n:Nat) (c:Int),vs=[.ref a,.int n,.int c]/\SqL K H a (xs.map V.int)/\xs.length<=100/\1<=n/\n<=12 /\
 ∀ q H' (r:Nat->Nat->Nat),(∀ i,Bin (r i))->Same H H'->H q=none->H' q=some (.lst ((List.range xs.length).map fun i=>V.str (tx n (r i))))->Q (.ref q) H'
abbrev Ns:List Str:=["_law_cells", "_law_n", "_law_cell_here", "_law_plan_here"]
abbrev Pss:List Str:=["_law_cells", "_law_n", "_law_cell_here"]
theorem sc_rows:FnScope Ns Pss (defScope s_rows):=⟨rfl,rfl,rfl,by decide +kernel,rfl,by decide +kernel,by decide +kernel⟩
theorem nd_r:(["_law_one", "_law_n", "_law_plan_here"]:List Str).Nodup:=by decide +kernel
theorem ok_rows {f fr fp fb:Addr}{fd gr gp gb:FuncData}(D:Df K mg "_law_rows" s_rows Pss f fd) (Dr:Df K mg "_law_draws" s_draws Pdr fr gr) (Dp:Df K mg "_law_plan" s_plan ["_law_cell_here"] fp gp) (Db:Df K mg "_law_row_by" s_rowby Pr fb gb)
  (Gp:FnOk P w K mg base (CXE P w) 2 fp gp ["_law_cell_here"] spPlan) (Gb:FnOk P w K mg base (CXE P w) 2 fb gb Pr (spRowBy K)) (B:Bt mg):FnOk P w K mg base (CXE P w) 3 f fd Pss (spRows K):=by
 refine D.F.okN sc_rows (fun vs H Q E h=>?_) (fun cdv A outer s H vs Q E hr h=>?_)
 ·obtain ⟨a,xs,n,c,rfl,_⟩:=h
  rfl
 ·obtain ⟨a,xs,n,c,rfl,hS,hl,n1,n12,k⟩:=h
  refine ⟨_,pss_cons (ps_set (i:=3) sc_rows.nd rfl (Or.inr rfl) (pe_fn Dp Gp hr passN (pa_cons (pv 2) pa_nil)))
   (pss_one (ps_ret (pe_comp (N':=["_law_one", "_law_n", "_law_plan_here"]) (fm:=[none,some 1,some 3]) rfl ⟨rfl,by decide +kernel,by decide +kernel,rfl,rfl,rfl⟩
    (pi_list (pv 0)) (fun _ _ _ _=>pg_name (i:=0) nd_r rfl (Or.inl rfl)) (fun _ _ _ _=>pif_nil)
    (fun _ _ _ _=>pe_fn Db Gb hr passN (pa_cons (pe_ix (r:=rIxL K) ix_list (pe_fn Dr (ok_draws Dr B) (hr.mono (by decide)) passN (pa_cons (pv 0) (pa_cons (pe_lst (pa_cons pe_int pa_nil)) pa_nil))) pe_int (fun _ _=>rfl)) (pa_cons (pv 1) (pa_cons (pv 2) pa_nil))))))),?_⟩
  refine ⟨_,rfl,c,rfl,fun pl H1 p0 p1 p2 p3 p4 sm1 hpl e1=>?_⟩
  refine ⟨_,rfl,a,rfl,⟨_,sm1.seq hS⟩,fun p hp=>?_⟩
  have hpH:H p=none:=by
   cases z:H p with
   | none=>rfl
   | some o=>rw [sm1 p o z] at hp; cases hp
  refine blk_list (K:=K) (a:=a) (xs:=xs.map V.int) (fun i σ H2=>∃ v r,σ=[v,some (.int n),some (.ref pl)]/\(∀ i,Bin (r i))/\Same H1 H2/\H2 p=some (.lst ((List.range i).map fun j=>V.str (tx n (r j)))))
   ⟨none,fun _ _=>121,rfl,fun _ _=>.inl rfl,Same.new hp,upd_same⟩ (fun i σ H2 _ ⟨_,_,_,_,s2,_⟩=>s2.seq (sm1.seq hS)) ?_ ?_
  ·rintro i y σ H2 hi ⟨v,r,rfl,hr',s2,e2⟩
   rw [List.getElem?_map] at hi
   cases z:xs[i]? with
   | none=>rw [z] at hi; cases hi
   | some d =>
    rw [z] at hi
    cases hi
    have il:i < xs.length:=(List.getElem?_eq_some_iff.mp z).1
    refine turn_all ⟨_,rfl,len_le (show 1<=100 by decide),fun t ht=>?_⟩
    refine ⟨d,t,[8192],rfl,SqL.of upd_same,by decide,by decide,fun u H3 s3 hu e3=>?_⟩
    have s23:Same H2 H3:=(Same.new ht).trans' s3
    refine ⟨u,_,_,.int (mixM d % 8192),rfl,rfl,SqL.of e3,rfl,_,rfl,_,rfl,?_⟩
    refine ⟨_,n,pl,p0,p1,p2,p3,p4,rfl,(s2.trans' s23).seq (SqL.of e1),n1,n12,fun H4 cc hcc s4=>?_⟩
    refine ⟨_,s4 p _ (s23 p _ e2),small_rng _ _ (by omega),_,fun j=>if j=i then cc else r j,rfl,fun j=>?_,Same.grow hp (s2.trans' (s23.trans' s4)),?_⟩
    ·show Bin (if j=i then cc else r j)
     split
     ·exact hcc
     ·exact hr' j
    ·rw [upd_same]
     exact congrArg (fun z=>some (HO.lst z)) (put_last (fun c=>V.str (tx n c)) r cc i)
  ·rintro σ H2 ⟨v,r,rfl,hr',s2,e2⟩
   rw [List.length_map] at e2
   exact k p H2 r hr' (sm1.trans' s2) hpH e2
end
end K63
namespace K63
open PySem L2
def retE:List Stmt->Expr
 | [.Return (some e) _]=>e
 | _=>.Constant .none 0 ⟨0,0,0,0⟩
def subA:Expr->Expr
 | .Subscript a _ _=>a
 | e=>e
def subB:Expr->Expr
 | .Subscript _ b _=>b
 | e=>e
def lstE:Expr->List Expr
 | .List es _=>es
 | _=>[]
@[irreducible] def e_ci:Expr:=subB (retE (defBody s_count))
@[irreducible] def e_cd:Expr:=subA (subB (retE (defBody s_count)))
@[irreducible] def es_cl:List Expr:=lstE (subA (retE (defBody s_count)))
theorem cnt_body:defBody s_count=[.Return (some (.Subscript (.List es_cl ⟨230,11,230,51⟩) e_ci ⟨230,11,230,88⟩)) ⟨230,4,230,88⟩]:=by delta e_ci es_cl; rfl
theorem ci_eq:e_ci=.Subscript e_cd (.Constant (.int 0) 0 ⟨230,85,230,86⟩) ⟨230,52,230,87⟩:=by delta e_ci e_cd; rfl
theorem cd_eq:e_cd=.Call (.Name "_law_draws" ⟨230,52,230,62⟩) [.Name "_law_cell_here" ⟨230,63,230,77⟩,.List [.Constant (.int 13) 0 ⟨230,80,230,82⟩] ⟨230,79,230,83⟩] [] ⟨230,52,230,84⟩:=by delta e_cd; rfl
theorem cl_ints:intsOf es_cl=some [3,4,5,2,6,3,12,4,1,7,5,9,4]:=by delta es_cl; rfl
theorem ci_plain:PlainIx e_ci:=by delta e_ci; exact fun _ _=>rfl
section
variable {P:Program}{w:World}{K:PySem.W.Frag}{mg:Str->Option Value}{base:Heap}
def spCount:Sp:=fun vs H Q _=>∃ c:Int,vs=[.int c]/\∀(n:Nat) H',1<=n->n<=12->Same H H'->Q (.int n) H'
theorem sc_count:FnScope ["_law_cell_here"] ["_law_cell_here"] (defScope s_count):=⟨rfl,rfl,rfl,by decide +kernel,rfl,by decide +kernel,by decide +kernel⟩
theorem cnt_at (i:Nat) (h:i < 13):∃ n:Nat,1<=n/\n<=12/\atI (([3,4,5,2,6,3,12,4,1,7,5,9,4]:List Int).map V.int) (i:Int)=some (.int n):=by
 match i,h with
 | 0,_=>exact ⟨3,by decide,by decide,rfl⟩
 | 1,_=>exact ⟨4,by decide,by decide,rfl⟩
 | 2,_=>exact ⟨5,by decide,by decide,rfl⟩
 | 3,_=>exact ⟨2,by decide,by decide,rfl⟩
 | 4,_=>exact ⟨6,by decide,by decide,rfl⟩
 | 5,_=>exact ⟨3,by decide,by decide,rfl⟩
 | 6,_=>exact ⟨12,by decide,by decide,rfl⟩
 | 7,_=>exact ⟨4,by decide,by decide,rfl⟩
 | 8,_=>exact ⟨1,by decide,by decide,rfl⟩
 | 9,_=>exact ⟨7,by decide,by decide,rfl⟩
 | 10,_=>exact ⟨5,by decide,by decide,rfl⟩
 | 11,_=>exact ⟨9,by decide,by decide,rfl⟩
 | 12,_=>exact ⟨4,by decide,by decide,rfl⟩
theorem ok_count {f fr:Addr}{fd gr:FuncData}(D:Df K mg "_law_count" s_count ["_law_cell_here"] f fd) (Dr:Df K mg "_law_draws" s_draws Pdr fr gr) (B:Bt mg):FnOk P w K mg base (CXE P w) 2 f fd ["_law_cell_here"] spCount:=by
 refine D.F.okN sc_count (fun vs H Q E h=>?_) (fun cdv A outer s H vs Q E hr h=>?_)
 ·obtain ⟨c,rfl,_⟩:=h
  rfl
 ·obtain ⟨c,rfl,k⟩:=h
  rw [cnt_body]
  have x1:=pe_lst (X:=(cxOf (CXE P w) P w K mg base ["_law_cell_here"] "_law_count" (defScope s_count) f cdv A outer s H E).nox) (pos:=⟨230,11,230,51⟩) (pa_ints cl_ints)
  have x2:PE (cxOf (CXE P w) P w K mg base ["_law_cell_here"] "_law_count" (defScope s_count) f cdv A outer s H E).nox e_cd (tCall (spDraws K) [] E0 (tCons (tVar 0) (tCons (tLst (tCons (tC (.int 13)) tNil)) tNil))):=by
   rw [cd_eq]
   exact pe_fn Dr (ok_draws Dr B) hr passN (pa_cons (pv 0) (pa_cons (pe_lst (pa_cons pe_int pa_nil)) pa_nil))
  have x3:PE (cxOf (CXE P w) P w K mg base ["_law_cell_here"] "_law_count" (defScope s_count) f cdv A outer s H E).nox e_ci (tOp (rIxL K) (tCall (spDraws K) [] E0 (tCons (tVar 0) (tCons (tLst (tCons (tC (.int 13)) tNil)) tNil))) (tC (.int 0))):=by
   rw [ci_eq]
   exact pe_ix ix_list x2 pe_int (fun _ _=>rfl)
  refine ⟨_,pss_one (ps_ret (pe_ix ix_list x1 x3 ci_plain)),?_⟩
  refine ⟨len_le (show 13<=100 by decide),fun g hg=>?_⟩
  refine ⟨_,rfl,len_le (show 1<=100 by decide),fun t ht=>?_⟩
  refine ⟨c,t,[13],rfl,SqL.of upd_same,by decide,by decide,fun u H3 s3 hu e3=>?_⟩
  have db:0<=mixM c % 13/\mixM c % 13 < 13:=⟨Int.emod_nonneg _ (by decide),Int.emod_lt_of_pos _ (by decide)⟩
  obtain ⟨n,n1,n12,en⟩:=cnt_at (mixM c % 13).toNat (by omega)
  have e:(((mixM c % 13).toNat:Nat):Int)=mixM c % 13:=by omega
  rw [e] at en
  have s03:=(Same.new ht).trans' s3
  refine ⟨u,_,_,.int (mixM c % 13),rfl,rfl,SqL.of e3,rfl,g,_,_,.int n,rfl,rfl,SqL.of (s03 g _ upd_same),en,?_⟩
  exact k n H3 n1 n12 ((Same.new hg).trans' s03)
end
end K63
namespace L2
open PySem PySem.Spec PyProof.Rows
section
variable {X:Cx}{pos:Pos}
theorem ps_weak {X:Cx}{st:Stmt}{t t':TS}(h:PS X st t) (hm:∀ D σ H,t' D σ H->t D σ H):PS X st t':=fun pins s σ H D I q=>h pins s σ H D I (hm D σ H q)
end
section
variable {K:PySem.W.Frag}{T p:Addr}{te:TE}{N:St->Hp->Prop}{σ:St}{H:Hp}{x y z u:V}
end
end L2
namespace L2
open PySem PySem.Spec PyProof.Rows
def Ite (x:Str):It:=⟨fun i _=>i < x.length,fun i H v H'=>∃ T,v=.ref T/\H T=none/\H'=upd H T (.tup [.int i,sg x i]),fun i _=>x.length<=i⟩
theorem drawsStr {P:Program}{w:World}{A:Around}(hh:A.handled=none) (it:Addr) (x:Str) :
  Draws P w A it [it] x.length (fun i v=>∃ u,v=.str ⟨#[x.cps.getD i 0]⟩ u) (fun i h=>StrIt h it x i) where
 live:=fun _ _ st=>let ⟨o,ho,_⟩:=st.obj; ⟨o,ho⟩
 frame:=fun _ _ _ st hk=>st.at fun o e=>hk it (by simp) o e
 item:=fun i s Q E hi st hQ=>nextStr_item st (sg_at hi) fun h' t tk st' sb=>hQ _ h' tk ⟨t,rfl⟩ st' sb
 done:=fun s Q E st hE=>nextStr_end hh st (Array.getElem?_eq_none (Nat.le_refl _)) hE
section
variable {P:Program}{w:World}{K:PySem.W.Frag}
def EnSt (e it:Addr) (x:Str) (i:Nat) (h:Heap):Prop:=(∃ old,IsEnum h e it i old)/\StrIt h it x i
theorem turn_enum {elts:List Expr}{k:Nat}{pos:Pos}(e it:Addr) (hei:e≠it) (x:Str):Turn P w K (.Tuple elts k pos) (Ite x) [e,it] e (EnSt e it x) where
 mem:=by simp
 obj:=fun i h st b hb=>by
  obtain ⟨⟨old,he⟩,st⟩:=st
  rcases List.mem_cons.mp hb with rfl | hb
  ·exact ⟨_,he,fun v q=>by cases q⟩
  ·rw [List.mem_singleton.mp hb]; exact st.obj
 keep:=fun i h h' st k=>by
  obtain ⟨⟨old,he⟩,st⟩:=st
  exact ⟨⟨old,k e (by simp) _ he⟩,st.at fun o q=>k it (by simp) o q⟩
 item:=by
  intro X hP hw hK hc i pins s σ H E I hf st hg
  subst hP hw hK
  have W:=WalksT.enumerateD (A:=X.A) (drawsStr (P:=X.prog) (w:=X.w) (A:=X.A.in1) (I.ok.hd hc) it x) e hei (by simpa using hei) (by simp)
  refine W.item i s _ _ hg st fun T vals h' tk hv hT hq mid kp=>⟨_,rfl,?_⟩
  refine W.go elts k pos i T { s with heap:=h',toks:=tk } _ _ mid fun h'' st' kp'=>?_
  obtain ⟨t,y,⟨u,rfl⟩,rfl⟩:=hv
  have nT:T∉[e,it]:=W.apart i T h' mid
  have hq2:h''.IsTuple T #[Value.int (i:Int) t,Value.str ⟨#[x.cps.getD i 0]⟩ u]:=by
   obtain ⟨o,h1,r⟩:=hq
   exact ⟨o,kp' T o nT h1,r⟩
  have fr:H T=none:=I.hok.fresh hT
  have I1:Inv X pins σ (upd H T (.tup [.int i,sg x i])) { s with heap:=h'',toks:=tk }:=by
   refine I.turnLaid (fp:=[e,it]) hf (fun b o hb q=>kp' b o hb (kp b o hb q)) hT nT ?_
   exact ⟨by show 2<=sizeLine; rw [sizeLine_eq]; omega,_,.cons ⟨t,rfl⟩ (.cons ⟨u,rfl⟩ .nil),hq2⟩
  refine ⟨.ref T,_,I1,rfl,⟨T,rfl,fr,rfl⟩,st',fun b hb=>?_⟩
  have nb:b≠T:=fun q=>nT (q ▸ hb)
  rw [upd_ne nb]
  exact (hf b hb).1
 done:=by
  intro X hP hw hK hc i pins s σ H E I hf st hg
  subst hP hw hK
  obtain ⟨⟨old,he⟩,st⟩:=st
  have hx:x.cps[i]? = none:=Array.getElem?_eq_none hg
  have hT:s.TypeIs (.ref e) "enumerate" := ⟨_,he,rfl⟩
  unfold pyNext
  refine wpAny_bind (wpAny_attempt (wpAny_callSpecial?_slot (name:=Str.ofString "__next__") hT F.slot_enumerate_next
   (wpAny_call_entry F.slot_enumerate_next hT F.entry_enumerate_next ?_ (F.args_enumerate_next_1 _))))
  show wpAny _ _ (field (.ref e) 2 >>= _) _ _ _
  refine wpAny_bind (wpAny_field he rfl (x:=.ref it) rfl ?_)
  refine wpAny_bind (nextStr_end (I.ok.hd hc) st hx fun h' y he' hx'=>?_)
  obtain ⟨o,ho,hcl⟩:=hx'
  refine wpAny_bind (wpAny_isInstance (T := "StopIteration") (b:=true) ⟨o,ho,hcl⟩ isSubtype_stop ?_)
  exact wpAny_pure ⟨rfl,I.turnedL (fp:=[e,it]) (t':=s.toks) hf fun b o hb q=>he' b o (fun z=>hb (by simp [z])) q⟩
 self:=fun A i s Q E st h=>by
  obtain ⟨⟨old,he⟩,_⟩:=st
  exact wpAny_pyIter_enum he h
end
section
variable {X:Cx}
def iEnum (ta:TA):TI:=fun σ H R=>ta σ H fun vs H1=>∃ x,vs=[.str x]/\R (Ite x) H1
theorem pi_enum {elts:List Expr}{k:Nat}{tp:Pos}{a:Expr}{ta:TA}{p pos:Pos}(hg:Gl X "enumerate") (hm:X.mg "enumerate" = none) (ha:PA X [a] ta) (hs:starEach [a] X.env=[(false,eval a X.env)]:=by rfl) :
  PI X (.Tuple elts k tp) (.Call (.Name "enumerate" p) [a] [] pos) (iEnum ta):=by
 intro pins s σ H R I h
 refine Call_ (ld_blt I hg hm boot_enumerate (PyProof.Rows.callWith_type1 (thn (ha pos pins s σ H _ I h) fun us s1 ⟨vs,H1,I1,r1,q1⟩=>?_) hs rfl))
 obtain ⟨x,rfl,q⟩:=q1
 obtain ⟨u,rfl,ru⟩:=r1.one
 obtain ⟨t,rfl⟩:=ru
 refine call_enumerate_str fun h' he st hz kp=>wpAny_pyIter_enum (s:={ s1 with heap:=h' }) he ?_
 have hst:StrIt h' s1.heap.objs.size x 0:=⟨_,t,st,by unfold strIterType; split <;> simp⟩
 refine ⟨_,[s1.heap.objs.size + 1,s1.heap.objs.size],_,_,H1,rfl,I1.kept (t':=s1.toks) kp,turn_enum _ _ (Nat.succ_ne_self _) x,⟨⟨_,by simpa using he⟩,hst⟩,fun b hb=>?_,q⟩
 have hb':s1.heap.objs.size<=b:=by
  simp only [List.mem_cons,List.not_mem_nil,or_false] at hb
  rcases hb with rfl | rfl
  ·exact Nat.le_succ _
  ·exact Nat.le_refl _
 exact I1.fpOk hb' (I1.hok.fresh hb')
end
section
variable {g:TG}{tb:TS}{D:Ends}{σ:St}{H:Hp}{x:Str}
theorem for_enum (Pv:Nat->St->Hp->Prop) (h0:Pv 0 σ H)
  (hs:∀ i T σ H,i < x.length->H T=none->Pv i σ H->g (.ref T) σ (upd H T (.tup [.int i,sg x i])) fun σ2 H2=>tb { D with nx:=Pv (i + 1),ct:=Pv (i + 1),bk:=D.nx } σ2 H2) (hd:∀ σ H,Pv x.length σ H->D.nx σ H) :
  ∃ W:Nat->Nat->St->Hp->Prop,(∃ m,W 0 m σ H)/\∀ i m σ H,W i m σ H ->
   ((Ite x).stop i H/\D.nx σ H)∨((Ite x).go i H/\∃ N:St->Hp->Prop,(∀ σ' H',N σ' H'->∃ m',m' < m/\W (i + 1) m' σ' H')/\∀ v H',(Ite x).yld i H v H'->g v σ H' fun σ2 H2=>tb { D with nx:=N,ct:=N,bk:=D.nx } σ2 H2):=by
 refine ⟨fun i m σ H=>m=x.length - i/\i<=x.length/\Pv i σ H,⟨x.length,by simp,Nat.zero_le _,h0⟩,?_⟩
 rintro i m σ H ⟨rfl,hi,p⟩
 by_cases hlt:i < x.length
 ·refine .inr ⟨hlt,Pv (i + 1),fun σ' H' p'=>⟨x.length - (i + 1),by omega,rfl,hlt,p'⟩,fun v H' y=>?_⟩
  obtain ⟨T,rfl,hT,rfl⟩:=y
  exact hs i T σ H hlt hT p
 ·have e:i=x.length:=by omega
  subst e
  exact .inl ⟨Nat.le_refl _,hd σ H p⟩
end
section
variable {p:Addr}{g:TG}{tt:TT}{te:TE}{Q:Hp->Prop}{σ0:St}{H0:Hp}{x:Str}
theorem blk_enum (Pv:Nat->St->Hp->Prop) (h0:Pv 0 σ0 H0) (hs:∀ i T σ H,i < x.length->H T=none->Pv i σ H->BlkTurn p g tt te (Pv (i + 1)) (.ref T) σ (upd H T (.tup [.int i,sg x i]))) (hd:∀ σ H,Pv x.length σ H->Q H) :
  tBlk (Ite x) p g tt te σ0 H0 Q:=by
 refine ⟨fun i m σ H=>m=x.length - i/\i<=x.length/\Pv i σ H,⟨x.length,by simp,Nat.zero_le _,h0⟩,?_⟩
 rintro i m σ H ⟨rfl,hi,r⟩
 by_cases hlt:i < x.length
 ·refine .inr ⟨hlt,Pv (i + 1),fun σ' H' r=>⟨x.length - (i + 1),by omega,rfl,hlt,r⟩,fun v H' y=>?_⟩
  obtain ⟨T,rfl,hT,rfl⟩:=y
  exact hs i T σ H hlt hT r
 ·have e:i=x.length:=by omega
  subst e
  exact .inl ⟨Nat.le_refl _,hd σ H r⟩
end
end L2
namespace L2
open PySem PySem.Spec PyProof.Rows
abbrev TBd:=St->Hp->(St->Hp->Prop)->Prop
def PB (X:Cx) (act:Sem Unit) (t:TBd):Prop :=
 ∀(pins:List (Addr×Obj)) (s:Shared) (σ:St) (H:Hp) (Q:St->Hp->Prop),Inv X pins σ H s->t σ H Q ->
  wpAny (model X.prog X.w) X.A act (fun _ s'=>∃ σ' H',Inv X pins σ' H' s'/\Q σ' H') (fun _ _=>False) s
def tLoop (J:It) (g:TG) (tt:TT) (tb:TBd) (σ0:St) (H0:Hp) (Q:St->Hp->Prop):Prop :=
 ∃ W:Nat->Nat->St->Hp->Prop,(∃ m,W 0 m σ0 H0)/\∀ i m σ H,W i m σ H ->
  (J.stop i H/\Q σ H)∨(J.go i H/\∃ N:St->Hp->Prop,(∀ σ' H',N σ' H'->∃ m',m' < m/\W (i + 1) m' σ' H')/\∀ x H1,J.yld i H x H1->g x σ H1 fun σ2 H2=>tt σ2 H2 fun b H3 =>
   if b=true then tb σ2 H3 N else N σ2 H3)
def tEmit (te:TE) (p:Addr):TBd:=fun σ H N=>te σ H fun v H4=>∃ ys,H4 p=some (.lst ys)/\ys.length < sizeLine/\N σ (upd H4 p (.lst (ys ++ [v])))
def tNest (wi:TI) (g:TG) (tt:TT) (tb:Addr->TBd) (p:Addr):TBd:=fun σ H N=>wi σ H fun J H1=>tLoop J g tt (tb p) σ H1 N
def tCompN (fm:List (Option Nat)) (wi:TI) (g:TG) (tt:TT) (tb:Addr->TBd):TE:=fun σ H Q=>wi σ H fun J H1=>∀ p,H1 p=none ->
 tLoop J g tt (tb p) (seeσ fm σ) (upd H1 p (.lst [])) fun _ H2=>Q (.ref p) H2
def turnOf (ip:Pos) (tg:Expr) (ifs:List Expr) (act:Sem Unit) (e:Expr) (d:Nat) (it acc:Value) (env:Env):Sem Fin:=do
 standAt ip
 match <- pyNext it with
 | none=>pure (.done .next)
 | some v =>
  letOwnedTupleGo tg it v
  assign tg env v
  let mut ok:=true
  for c in ifs do
   if ok then ok <- isTrue c env (eval c env)
  if ok then
   act
  again (.compLoop e d it acc env)
def emitOf (elt:Expr) (acc:Value) (env:Env):Sem Unit:=do let _ <- call (.builtin "list.append") [acc,<- eval elt env]
def nestOf (cl:Comprehension) (e:Expr) (d:Nat) (acc:Value) (env:Env):Sem Unit:=do
 let x <- eval cl.iter env
 standAt cl.iter.pos
 let x <- foldedSetIterable cl.iter env x
 let _ <- runOwn (.compStart e d (<- holding [x] (pyIter x)) acc env) env
def actAt (elt:Expr) (gens:List Comprehension) (scope:Scope) (pos:Pos) (d:Nat) (acc:Value) (env:Env):Sem Unit :=
 match gens[d + 1]? with
 | some g=>nestOf g (.ListComp elt gens scope pos) (d + 1) acc env
 | none=>emitOf elt acc env
theorem turn_gen {elt:Expr}{gens:List Comprehension}{scope:Scope}{pos:Pos}{d:Nat}{cl:Comprehension}(h1:gens[d]? = some cl) (h2:cl.is_async=0) (h3:∀ g,gens[d + 1]? = some g->g.is_async=0) (it acc:Value) (env:Env) :
  compTurn (.ListComp elt gens scope pos) d it acc env=turnOf cl.iter.pos cl.target cl.ifs (actAt elt gens scope pos d acc env) (.ListComp elt gens scope pos) d it acc env:=by
 unfold compTurn turnOf actAt
 simp only [h1,h2,bne_self_eq_false,Bool.false_eq_true,if_false]
 cases e:gens[d + 1]? with
 | none=>rfl
 | some g =>
  have h:=h3 g e
  simp only [h,nestOf,bne_self_eq_false,Bool.false_eq_true,if_false,bind_assoc,pure_bind]
  rfl
section
variable {X:Cx}{elt iter tg:Expr}{gens:List Comprehension}{scope:Scope}{cpos:Pos}{ifs:List Expr}{d:Nat}{ip:Pos}{act:Sem Unit}{g:TG}{tt:TT}{tb:TBd}{te:TE}{acc:Value}
theorem loopD {R:Result->Shared->Prop}{pins:List (Addr×Obj)}{s1:Shared}{it:Addr}{fp:List Addr}{tn:Nat->Heap->Prop}{J:It}{Q:St->Hp->Prop}{H0:Hp}{σ0:St}
  (hc:X.calm=true) (hx:∀ v s,X.xe v s->False) (hq:∀ it,compTurn (.ListComp elt gens scope cpos) d it acc X.env=turnOf ip tg ifs act (.ListComp elt gens scope cpos) d it acc X.env) (hg:PG X tg g) (ht:PIfs X ifs tt) (hb:PB X act tb)
  (T:Turn X.prog X.w X.K tg J fp it tn) (hfp:∀ b∈fp,FpOk X pins H0 b) (I:Inv X pins σ0 H0 s1) (st:tn 0 s1.heap) (blk:tLoop J g tt tb σ0 H0 Q)
  (hR:∀ σ' H' s',Inv X pins σ' H' s'->Q σ' H'->R (.ok .next) s') :
  codeAny (model X.prog X.w) X.A (.compLoop (.ListComp elt gens scope cpos) d (.ref it) acc X.env) R s1:=by
 obtain ⟨W,⟨m0,w0⟩,turn⟩:=blk
 have stat:∀{H':Hp},(∀ b∈fp,H' b=none)->∀ b∈fp,FpOk X pins H' b:=fun hn b hb=>⟨hn b hb,(hfp b hb).2⟩
 refine codeAny_loop rfl (fun n s'=>∃ i σ' H',Inv X pins σ' H' s'/\tn i s'.heap/\(∀ b∈fp,H' b=none)/\W i n σ' H') (fun n s2 hI=>?_) m0 ⟨0,σ0,H0,I,st,fun b hb=>(hfp b hb).1,w0⟩
 obtain ⟨i,σ2,H2,I2,st2,fr2,w2⟩:=hI
 show wpAny _ X.A ((compTurn (.ListComp elt gens scope cpos) d (.ref it) acc X.env).onRaise fun x=>do noteFrame x X.env; theTreesLotGoes x) _ _ s2
 refine wpAny_noted ?_
 rw [hq]
 unfold turnOf
 have lift:∀{α:Type} {t:Sem α} {Q1 Q2:α->Shared->Prop} {E2:Value->Shared->Prop} {s':Shared},wpAny (model X.prog X.w) X.A t Q1 (fun _ _=>False) s'->(∀ a s'',Q1 a s''->Q2 a s'')->wpAny (model X.prog X.w) X.A t Q2 E2 s' :=
  fun h k=>wpAny_mono h k fun _ _ z=>z.elim
 have liftX:∀{α:Type} {t:Sem α} {Q1 Q2:α->Shared->Prop} {E2:Value->Shared->Prop} {s':Shared},wpAny (model X.prog X.w) X.A t Q1 X.xe s'->(∀ a s'',Q1 a s''->Q2 a s'')->wpAny (model X.prog X.w) X.A t Q2 E2 s' :=
  fun h k=>wpAny_mono h k fun v s z=>(hx v s z).elim
 rcases turn i n σ2 H2 w2 with ⟨stop,qn⟩ | ⟨go,N,hN,step⟩
 ·refine wpAny_bind (wpAny_standAt (wpAny_bind (lift (T.done X rfl rfl rfl hc i pins s2 σ2 H2 _ I2 (stat fr2) st2 stop) fun r s3 q=>?_)))
  obtain ⟨hr,I3⟩:=q
  subst hr
  exact wpAny_pure (hR σ2 H2 s3 I3 qn)
 ·refine wpAny_bind (wpAny_standAt (wpAny_bind (lift (T.item X rfl rfl rfl hc i pins s2 σ2 H2 _ I2 (stat fr2) st2 go) fun r s3 q=>?_)))
  obtain ⟨u,hr,h3⟩:=q
  subst hr
  refine wpAny_bind (lift h3 fun _ s4 q4=>?_)
  obtain ⟨x,H4,I4,r4,y4,st4,fr4⟩:=q4
  have I4':=I4.pinned (stat fr4) (T.obj _ _ st4)
  refine wpAny_bind (liftX (hg _ s4 σ2 H4 x u _ I4' r4 (step x H4 y4)) fun _ s5 q5=>?_)
  obtain ⟨σ5,H5,I5,q5⟩:=q5
  refine wpAny_bind (liftX (ht _ s5 σ5 H5 _ I5 q5) fun b s6 q6=>?_)
  obtain ⟨H6,I6,q6⟩:=q6
  have again:∀{σ7:St} {H7:Hp} {s7:Shared} {m':Nat},Inv X (pins ++ pinsAt fp s4.heap) σ7 H7 s7->W (i + 1) m' σ7 H7 ->
    ∃ i σ' H',Inv X pins σ' H' s7/\tn i s7.heap/\(∀ b∈fp,H' b=none)/\W i m' σ' H':=fun {σ7 H7 s7 m'} I7 w7=>by
   refine ⟨i + 1,σ7,H7,I7.unpinned,T.keep _ _ _ st4 fun b hb o e=>(I7.pin (b,o) (List.mem_append_right _ (List.mem_append_right _ (mem_pinsAt hb e)))).1,fun b hb=>?_,w7⟩
   obtain ⟨o,e,d⟩:=T.obj _ _ st4 b hb
   exact (I7.pin (b,o) (List.mem_append_right _ (List.mem_append_right _ (mem_pinsAt hb e)))).2.1
  cases b with
  | false =>
   rw [if_neg Bool.false_ne_true] at q6
   obtain ⟨m',hm,w7⟩:=hN _ _ q6
   exact wpAny_pure ⟨rfl,m',hm,again I6 w7⟩
  | true =>
   rw [if_pos rfl] at q6
   refine wpAny_bind (lift (hb _ s6 σ5 H6 _ I6 q6) fun _ s7 q7=>?_)
   obtain ⟨σ7,H7,I7,n7⟩:=q7
   obtain ⟨m',hm,w7⟩:=hN _ _ n7
   exact wpAny_pure ⟨rfl,m',hm,again I7 w7⟩
theorem pb_emit {p:Addr}(hx:∀ v s,X.xe v s->False) (he:PE X elt te):PB X (emitOf elt (.ref p) X.env) (tEmit te p):=by
 intro pins s σ H Q I q
 have liftX:∀{α:Type} {t:Sem α} {Q1 Q2:α->Shared->Prop} {E2:Value->Shared->Prop} {s':Shared},wpAny (model X.prog X.w) X.A t Q1 X.xe s'->(∀ a s'',Q1 a s''->Q2 a s'')->wpAny (model X.prog X.w) X.A t Q2 E2 s' :=
  fun h k=>wpAny_mono h k fun v s z=>(hx v s z).elim
 unfold emitOf
 refine wpAny_bind (liftX (he _ s σ H _ I q) fun u s7 q7=>?_)
 obtain ⟨v,H7,I7,r7,ys,hp,hz,n7⟩:=q7
 have ap:=mt_append (X:=X) pins s7 σ H7 (.ref p) [v] (.ref p) [u] (fun _ H8=>Q σ H8) I7 rfl (.cons r7 .nil) ⟨p,ys,v,rfl,rfl,hp,hz,n7⟩
 refine wpAny_bind (liftX ap fun _ s8 q8=>?_)
 obtain ⟨_,H8,I8,_,w8⟩:=q8
 exact wpAny_pure ⟨σ,H8,I8,w8⟩
theorem compStart_D {R:Result->Shared->Prop}{M:Program}{w:World}{A:Around}{s:Shared}{env:Env}{it:Value}{cl:Comprehension}(h1:(clausesOf (.ListComp elt gens scope cpos))[d]? = some cl) (h2:cl.is_async=0)
  (h0:codeAny (model M w) A (.compLoop (.ListComp elt gens scope cpos) d it acc env) R s)
  (h:wpAny (model M w) A (pyIter it) (fun it' s'=>codeAny (model M w) A (.compLoop (.ListComp elt gens scope cpos) d it' acc env) R s') (notedBy (model M w) A env fun x s'=>R (.error x) s') s) :
  codeAny (model M w) A (.compStart (.ListComp elt gens scope cpos) d it acc env) R s:=by
 refine codeAny_of_tree ?_
 show wpAny _ _ ((compStart (.ListComp elt gens scope cpos) d it acc env).onRaise (fun x=>do noteFrame x env; standAt theWindowsPlace)) _ _ s
 refine wpAny_notedAt ?_
 unfold compStart
 rw [h1]
 simp only [Option.elim,h2,bne_self_eq_false,Bool.false_eq_true,if_false]
 show wpAny _ _ (ask >>= _) _ _ s
 refine wpAny_bind (wpAny_askSetting (wpAny_ite ?_))
 split
 ·first
   | exact wpAny_bind (wpAny_pure (wpAny_pure (And.intro rfl h0)))
   | exact wpAny_pure (And.intro rfl h0)
 ·first
   | exact wpAny_bind (wpAny_rule (wpAny_bind (wpAny_standAt (wpAny_bind (wpAny_mono h (fun it' s' h'=>wpAny_pure (And.intro rfl h')) fun _ _ x=>x)))))
   | (refine wpAny_bind (wpAny_rule ?_); show wpAny _ _ (standAt cl.iter.pos >>= _) _ _ s; exact wpAny_bind (wpAny_standAt (wpAny_bind (wpAny_mono h (fun it' s' h'=>wpAny_pure (And.intro rfl h')) fun _ _ x=>x))))
theorem pb_nest {wi:TI}{tbp:Addr->TBd}{p:Addr}{cl:Comprehension}(hc:X.calm=true) (hx:∀ v s,X.xe v s->False) (hi:PI X cl.target cl.iter wi) (hg:PG X cl.target g) (ht:PIfs X cl.ifs tt) (hb:PB X (actAt elt gens scope cpos d (.ref p) X.env) (tbp p))
  (h1:(clausesOf (.ListComp elt gens scope cpos))[d]? = some cl:=by rfl) (h2:cl.is_async=0:=by rfl)
  (h3:∀ g,gens[d + 1]? = some g->g.is_async=0:=by intro g h; first | (cases h; rfl) | cases h)
  (hs:∀ x,foldedSetIterable cl.iter X.env x=pure x:=by intro _; rfl):PB X (nestOf cl (.ListComp elt gens scope cpos) d (.ref p) X.env) (tNest wi g tt tbp p):=by
 intro pins s σ H Q I q
 have liftX:∀{α:Type} {t:Sem α} {Q1 Q2:α->Shared->Prop} {E2:Value->Shared->Prop} {s':Shared},wpAny (model X.prog X.w) X.A t Q1 X.xe s'->(∀ a s'',Q1 a s''->Q2 a s'')->wpAny (model X.prog X.w) X.A t Q2 E2 s' :=
  fun h k=>wpAny_mono h k fun v s z=>(hx v s z).elim
 unfold nestOf
 refine wpAny_bind (liftX (hi pins s σ H _ I q) fun v s1 h1'=>?_)
 refine wpAny_bind (wpAny_standAt (wpAny_bind (wpAny_of_eq (hs v) (wpAny_bind (wpAny_holding (liftX h1' fun itv s2 h2'=>?_))))))
 obtain ⟨it,fp,tn,J,H2,ei,I2,T,st2,f2,blk⟩:=h2'
 subst ei
 have loop:codeAny (model X.prog X.w) X.A (.compLoop (.ListComp elt gens scope cpos) d (.ref it) (.ref p) X.env) (fun r s'=>match r with | .ok f=>(∃ σ' H',Inv X pins σ' H' s'/\Q σ' H') | .error ev=>cameBackBy (model X.prog X.w) X.A X.env (fun _ _=>False) ev s') s2 :=
  loopD (pins:=pins) hc hx (fun it=>turn_gen h1 h2 h3 it _ _) hg ht hb T f2 I2 st2 blk fun σ' H' s' I' q'=>⟨σ',H',I',q'⟩
 have fin:=wpAny_runOwn (M:=model X.prog X.w) (A:=X.A) (env:=X.env) (E:=fun _ _=>False) (h:=none) (Q:=fun _ s'=>∃ σ' H',Inv X pins σ' H' s'/\Q σ' H') (compStart_D h1 h2 loop (T.self _ 0 _ _ _ st2 loop))
 exact wpAny_bind (wpAny_mono fin (fun _ _ z=>wpAny_pure z) fun _ _ z=>z)
end
section
variable {X:Cx}{elt iter tg:Expr}{ifs:List Expr}{rest:List Comprehension}{scope:Scope}{pos:Pos}{N':List Str}{fm:List (Option Nat)}{wi:TI}{g:TG}{tt:TT}{tb:Addr->TBd}
theorem comp_blockN {RR:Value->Addr->Result->Shared->Prop}{pins:List (Addr×Obj)}{σ:St}{H:Hp}{s:Shared}{it:Addr}{fp:List Addr}{tn:Nat->Heap->Prop}{J:It}{Q:Addr->Hp->Prop}{E:Value->Shared->Prop}
  (hc:X.calm=true) (S:CompSc X scope N' fm) (hg:∀ s H C fp,PG (cxC X scope N' s H C fp) tg g) (ht:∀ s H C fp,PIfs (cxC X scope N' s H C fp) ifs tt)
  (hb:∀ s H C fp p,PB (cxC X scope N' s H C fp) (actAt elt (⟨tg,iter,ifs,0⟩ :: rest) scope pos 0 (.ref p) (cxC X scope N' s H C fp).env) (tb p))
  (hq:∀ it acc env,compTurn (.ListComp elt (⟨tg,iter,ifs,0⟩ :: rest) scope pos) 0 it acc env=turnOf iter.pos tg ifs (actAt elt (⟨tg,iter,ifs,0⟩ :: rest) scope pos 0 acc env) (.ListComp elt (⟨tg,iter,ifs,0⟩ :: rest) scope pos) 0 it acc env)
  (T:Turn X.prog X.w X.K tg J fp it tn) (I:Inv X pins σ H s) (st:tn 0 s.heap) (hf:∀ b∈fp,FpOk X pins H b)
  (blk:∀ p,H p=none->tLoop J g tt (tb p) (seeσ fm σ) (upd H p (.lst [])) fun _=>Q p)
  (hR:∀ p C H' s' (m:Str->Option Value),s'.heap.Ns C m->(∀ h',Heap.SameBut C s'.heap h'->Inv X pins σ H' { s' with heap:=h' })->FpOk X pins H' C->Q p H'->Inv X pins σ H' s'->RR (.ref p) C (.ok .next) s') :
  wpAny (model X.prog X.w) X.A (newList []) (fun acc s₃=>wpAny (model X.prog X.w) X.A (newFunctionEnv scope X.env.globals (clOf scope X.env) [] X.env.qual none .none (some X.env)) (fun cenv s₄ =>
   codeAny (model X.prog X.w) X.A (.compStart (.ListComp elt (⟨tg,iter,ifs,0⟩ :: rest) scope pos) 0 (.ref it) acc { cenv with scope:=relabel scope X.env }) (RR acc cenv.locals) s₄) E s₃) E s:=by
 have I1:Inv X pins σ (upd H s.heap.objs.size (.lst [])) { s with heap:=s.heap.push { cls:=.type "list",data:=.seq ([]:List Value).toArray } }:=I.lnew (t':=s.toks) .nil (Nat.zero_le _)
 have hb':=blk _ I.fresh
 refine wpAny_newObj_type (wpAny_newFunctionEnv S.cell (by intro y hy; simp at hy) (fun h1 hn1 hs1=>?_) S.kind)
 dsimp only at hn1 hs1 ⊢
 generalize hq2:s.heap.push { cls:=.type "list",data:=.seq ([]:List Value).toArray }=h2 at hn1 hs1 I1 ⊢
 have sz:h2.objs.size=s.heap.objs.size + 1:=by rw [<- hq2,Heap.size_push]
 have old:∀ b o,h2.get? b=some o->h1.get? b=some o:=fun b o e=>hs1.extBut b o (Nat.ne_of_lt (Heap.lt_size e)) (Heap.get?_push_of_some _ e)
 have old0:∀ b o,s.heap.get? b=some o->h2.get? b=some o:=fun b o e=>hq2 ▸ Heap.get?_push_of_some _ e
 have lt0:∀ b∈fp,b < s.heap.objs.size:=fun b hb=>by
  obtain ⟨o,e,_⟩:=T.obj _ _ st b hb
  exact Heap.lt_size e
 have hf1:∀ b∈fp,FpOk X pins (upd H s.heap.objs.size (.lst [])) b:=fun b hb=>by
  obtain ⟨f0,f⟩:=hf b hb
  exact ⟨by rw [upd_ne (Nat.ne_of_lt (lt0 b hb))]; exact f0,f⟩
 have lt2:∀ b∈fp,b < h2.objs.size:=fun b hb=>by rw [sz]; exact Nat.lt_succ_of_lt (lt0 b hb)
 have J0:=comp_start (s:={ s with heap:=h2 }) (h':=h1) (tk:=s.toks) (fp:=fp) S I1 hf1 lt2 hn1 old
 have st1:tn 0 h1:=T.keep _ _ _ st fun b _ o e=>old b o (old0 b o e)
 have fpok:∀ b∈fp,FpOk (cxC X scope N' { s with heap:=h2 } (upd H s.heap.objs.size (.lst [])) h2.objs.size fp) [] (upd H s.heap.objs.size (.lst [])) b:=fun b hb=>by
  refine ⟨(hf1 b hb).1,Nat.ne_of_lt (lt2 b hb),fun z=>?_,.inl hb,fun x c e z=>?_,fun p hp=>absurd (show p∈([]:List (Addr×Obj)) from hp) (by simp)⟩
  ·rcases List.mem_cons.mp (I.stkSub b z) with q | q
   ·exact (hf b hb).2.1 q
   ·exact (hf b hb).2.2.1 q
  ·exact (hf b hb).2.2.2.2.1 x c (S.look I e).1 z
 have loop:=loopD (X:=cxC X scope N' { s with heap:=h2 } (upd H s.heap.objs.size (.lst [])) h2.objs.size fp) (R:=RR (.ref s.heap.objs.size) h2.objs.size) (pins:=[]) hc (fun _ _ z=>z) (fun it=>hq it _ _) (hg _ _ _ _) (ht _ _ _ _) (hb _ _ _ _ _) T fpok J0 st1 hb' fun σ' H' s' Jv qv=>by
  obtain ⟨m,hm,_⟩:=Jv.loc
  exact hR _ _ H' s' m hm (fun h' sb=>comp_back (s:={ s with heap:=h2 }) I1 hf1 Jv rfl Jv.bare sb) (I1.fpOk (Nat.le_refl _) Jv.free) qv (comp_back (s:={ s with heap:=h2 }) I1 hf1 Jv rfl Jv.bare (Heap.SameBut.refl ..))
 exact codeAny_compStart_list loop (T.self _ 0 _ _ _ st1 loop)
theorem pe_compN (hc:X.calm=true) (S:CompSc X scope N' fm) (hi:PI X tg iter wi) (hg:∀ s H C fp,PG (cxC X scope N' s H C fp) tg g) (ht:∀ s H C fp,PIfs (cxC X scope N' s H C fp) ifs tt)
  (hb:∀ s H C fp p,PB (cxC X scope N' s H C fp) (actAt elt (⟨tg,iter,ifs,0⟩ :: rest) scope pos 0 (.ref p) (cxC X scope N' s H C fp).env) (tb p))
  (h3:∀ g,rest[0]? = some g->g.is_async=0:=by intro g h; first | (cases h; rfl) | cases h)
  (hs:∀ x,foldedSetIterable iter X.env x=pure x:=by intro _; rfl) :
  PE X (.ListComp elt (⟨tg,iter,ifs,0⟩ :: rest) scope pos) (tCompN fm wi g tt tb):=by
 intro pins s σ H Q I h
 rw [eval_ListComp]
 refine wpAny_comprehension_free (use:=none) rfl hs (closure_run (S.cells I)) S.kind S.names (thn (hi pins s σ H _ I h) fun v s1 h1=>thn h1 fun itv s2 h2=>?_)
 obtain ⟨it,fp,tn,J,H2,e,I2,T,st2,f2,blk⟩:=h2
 subst e
 refine comp_blockN (RR:=fun acc C=>compPost (model X.prog X.w) X.A X.xe none (EP X pins σ Q) acc C) (Q:=fun p H'=>Q (.ref p) H') hc S hg ht hb (fun it acc env=>turn_gen (cl:=⟨tg,iter,ifs,0⟩) (gens:=⟨tg,iter,ifs,0⟩ :: rest) (d:=0) rfl rfl (fun g h=>h3 g (by simpa using h)) it acc env) T I2 st2 f2 blk ?_
 intro p C H' s' m hm back _ q _
 exact ⟨m,hm,fun h' sb=>⟨.ref p,H',back h' sb,rfl,q⟩⟩
end
section
variable {K:PySem.W.Frag}{g:TG}{tt:TT}{tb:TBd}{σ0:St}{H0:Hp}{Q:St->Hp->Prop}{x:Str}
def LTurn (g:TG) (tt:TT) (tb:TBd) (N:St->Hp->Prop) (x:V) (σ:St) (H:Hp):Prop:=g x σ H fun σ2 H2=>tt σ2 H2 fun b H3=>if b=true then tb σ2 H3 N else N σ2 H3
theorem lp_str (Pv:Nat->St->Hp->Prop) (h0:Pv 0 σ0 H0) (hs:∀ i σ H,i < x.length->Pv i σ H->LTurn g tt tb (Pv (i + 1)) (sg x i) σ H) (hd:∀ σ H,Pv x.length σ H->Q σ H):tLoop (Its x) g tt tb σ0 H0 Q:=by
 refine ⟨fun i m σ H=>m=x.length - i/\i<=x.length/\Pv i σ H,⟨x.length,by simp,Nat.zero_le _,h0⟩,?_⟩
 rintro i m σ H ⟨rfl,hi,r⟩
 by_cases hlt:i < x.length
 ·refine .inr ⟨hlt,Pv (i + 1),fun σ' H' r=>⟨x.length - (i + 1),by omega,rfl,hlt,r⟩,fun v H' y=>?_⟩
  obtain ⟨rfl,rfl⟩:=y
  exact hs i σ _ hlt r
 ·have e:i=x.length:=by omega
  subst e
  exact .inl ⟨Nat.le_refl _,hd σ H r⟩
theorem lp_list {a:Addr}{xs:List V}(Pv:Nat->St->Hp->Prop) (h0:Pv 0 σ0 H0) (hl:∀ i σ H,i<=xs.length->Pv i σ H->SqL K H a xs) (hs:∀ i x σ H,xs[i]? = some x->Pv i σ H->LTurn g tt tb (Pv (i + 1)) x σ H) (hd:∀ σ H,Pv xs.length σ H->Q σ H) :
  tLoop (Itl K a) g tt tb σ0 H0 Q:=by
 refine ⟨fun i m σ H=>m=xs.length - i/\i<=xs.length/\Pv i σ H,⟨xs.length,by simp,Nat.zero_le _,h0⟩,?_⟩
 rintro i m σ H ⟨rfl,hi,r⟩
 have q:=hl i σ H hi r
 by_cases hlt:i < xs.length
 ·refine .inr ⟨⟨xs,xs[i],q,by simp [hlt]⟩,Pv (i + 1),fun σ' H' p'=>⟨xs.length - (i + 1),by omega,rfl,hlt,p'⟩,fun x H' y=>?_⟩
  obtain ⟨e,y⟩:=y
  subst e
  exact hs i x σ _ (y xs q) r
 ·have e:i=xs.length:=by omega
  subst e
  exact .inl ⟨⟨xs,q,Nat.le_refl _⟩,hd σ H r⟩
end
end L2
namespace L2
open PySem PySem.Spec PyProof.Rows
theorem preSum_sum (ns:List Int):∀ n,n<=ns.length->preSum (fun i=>ns.getD i 0) n=(ns.take n).sum
 | 0,_=>by simp [preSum]
 | n + 1,h=>by
  have ih:=preSum_sum ns n (by omega)
  show preSum (fun i=>ns.getD i 0) n + ns.getD n 0=_
  rw [ih,List.take_add_one,List.sum_append,List.getElem?_eq_getElem (by omega)]
  simp [List.getD_eq_getElem?_getD,List.getElem?_eq_getElem (show n < ns.length by omega)]
theorem kv_at {κ:Type}{k:κ}{u:Value}:∀{kvs:List (κ×V)}{vs:List (κ×Value)},KV kvs vs->∀(ns:List Int) (i:Nat),kvs.map (·.2)=ns.map V.int->vs[i]? = some (k,u)->∃ t,u=.int (ns.getD i 0) t:=by
 intro kvs vs r
 unfold KV at r
 induction r with
 | nil=>intro _ _ _ h; simp at h
 | @cons p q ps qs h t ih =>
  intro ns i e hi
  cases ns with
  | nil=>simp at e
  | cons n ns =>
   rw [List.map_cons,List.map_cons] at e
   injection e with e1 e2
   cases i with
   | zero =>
    simp at hi
    subst hi
    have r2:=h.2
    rw [e1] at r2
    obtain ⟨t,z⟩:=r2
    exact ⟨t,z⟩
   | succ i =>
    have hi':qs[i]? = some (k,u):=by simpa using hi
    exact ih ns i e2 hi'
section
variable {X:Cx}{o:Expr}{td:TE}{p apos cpos pos:Pos}
def tSumV (td:TE):TE:=fun σ H Q=>td σ H fun x H1=>∃(a:Addr) (kvs:List (Key×V)) (ns:List Int),x=.ref a/\H1 a=some (.dK kvs)/\kvs.map (·.2)=ns.map V.int/\Q (.int ns.sum) H1
theorem pe_sumvals (hc:X.calm=true) (hg:Gl X "sum") (hm:X.mg "sum" = none) (ho:PE X o td) (hbase:attributeBase o "values" X.env (eval o X.env)=eval o X.env:=by rfl) (hline:(apos.endLine == cpos.line)=true:=by rfl)
  (he:starEach [.Call (.Attribute o "values" apos) [] [] cpos] X.env=[(false,eval (.Call (.Attribute o "values" apos) [] [] cpos) X.env)]:=by rfl) :
  PE X (.Call (.Name "sum" p) [.Call (.Attribute o "values" apos) [] [] cpos] [] pos) (tSumV td):=by
 intro pins s σ H Q I h
 refine wpAny_Call_Name_kw (ld_blt I hg hm boot_sum ?_ (by decide) (by decide))
 refine PyProof.Rows.callWith_builtin1 ?_ he rfl
 rw [he]
 show wpAny _ _ (spliced ((false,eval (.Call (.Attribute o "values" apos) [] [] cpos) X.env) :: [])) _ _ s
 refine Calls.spliced_cons (wpAny_Call_method0_late hbase hline (thn (ho pins s σ H _ I h) fun v s1 ⟨x,H1,I1,r1,a,kvs,ns,ex,ea,ek,q1⟩=>?_))
 subst ex
 obtain rfl:v=Value.ref a:=r1
 obtain ⟨z,hd,vs,rel,dd⟩:=dk_of I1.hok ea
 have nd:∀ b,Value.ref a=.ref b->∃ ob,s1.heap.get? b=some ob/\ob.dict=none:=fun b q=>by
  cases q
  obtain ⟨ob,_,_,h1,h2,_⟩:=dd
  exact ⟨ob,h1,h2.2.1⟩
 refine ⟨"dict", "dict.values",PySem.F.plainAttrs_dict,PySem.F.slot_dict_values,PySem.F.type_dict_values,dd.typeIs,nd,Calls.callWith_builtin rfl (PySem.evalArgs_none ?_)⟩
 refine call_meetsIn PySem.F.slot_dict_values dd.typeIs PySem.F.entry_dict_values (PySem.F.args_dict_values_1 _) (meets_dict_values (mixKind X.prog X.w) a hd) ⟨⟨vs,dd⟩,?_⟩
 refine Calls.spliced_nil ?_
 obtain ⟨ep,da⟩:=dd.dictAt
 have hv:(s1.heap.push { cls:=.type "dict_values",data:=.fields #[.ref a] }).IsValuesView s1.heap.objs.size a:=⟨_,Heap.get?_push_size _ rfl,rfl,rfl⟩
 have KS:=PySem.W.kdl_values (prog:=X.prog) (w:=X.w) (knd:=mixKind X.prog X.w) (r:=s1.heap.objs.size) (d:=a) (kvs:=vs) (ep:=ep)
 refine call_sum_walkAnyS ?_
 obtain ⟨oI,St,hit,W,st⟩:=KS.iter X.A.in1 { s1 with heap:=s1.heap.push { cls:=.type "dict_values",data:=.fields #[.ref a] } } (I1.ok.hd hc) ⟨hv,da.push _⟩
 refine hit _ _ ⟨_,_,_,_,vs.length,_,_,fun i=>ns.getD i 0,rfl,W.toS,st,fun b hb=>?_,fun i u hu=>?_,fun s' t' hmv=>?_⟩
 ·show b < ((s1.heap.push { cls:=.type "dict_values",data:=.fields #[.ref a] }).push oI).objs.size
  rw [Heap.size_push,Heap.size_push]
  rcases List.mem_cons.mp hb with e | hb
  ·rw [e,Heap.size_push]; exact Nat.lt_succ_self _
  ·rw [List.mem_singleton.mp hb]; exact Nat.lt_succ_of_lt (Nat.lt_succ_of_lt da.lt_size)
 ·obtain ⟨k,hk⟩:=hu
  exact kv_at rel ns i ek hk
 ·have e:preSum (fun i=>ns.getD i 0) vs.length=ns.sum:=by
   have l:vs.length=ns.length:=by
    rw [<- rel.length]
    have:=congrArg List.length ek
    rwa [List.length_map,List.length_map] at this
   rw [l,preSum_sum ns _ (Nat.le_refl _),List.take_length]
  have kp:∀ b o,s1.heap.get? b=some o->s'.heap.get? b=some o:=fun b o e =>
   hmv.heap b o (fun hI=>by
    rw [List.mem_singleton] at hI
    have lt:=Heap.lt_size e
    rw [hI,Heap.size_push] at lt
    exact Nat.lt_irrefl _ (Nat.lt_trans lt (Nat.lt_succ_self _))) (Heap.get?_push_of_some _ (Heap.get?_push_of_some _ e))
  rw [Moved.eq_with hmv]
  refine ⟨.int ns.sum,H1,I1.kept (t':=s'.toks) kp,⟨t',by rw [e]⟩,q1⟩
end
end L2
namespace L2
open PySem PySem.W
def ch (x:Str) (i:Nat):Nat:=x.cps.getD i 0
structure Row (n:Nat) (x:Str):Prop where
 len:x.length=n
 bin:∀ i,i < n->ch x i=121∨ch x i=110
theorem ch_at {n:Nat}{x:Str}(h:Row n x) {i:Nat}(hi:i < n):atI x.cps.toList (i:Int)=some (ch x i):=by
 refine atI_nat ?_
 have hs:i < x.cps.size:=Nat.lt_of_lt_of_eq hi h.len.symm
 show x.cps.toList[i]? = some (x.cps.getD i 0)
 simp [Array.getD_eq_getD_getElem?,hs]
theorem tx_row {n:Nat}{c:Nat->Nat}(h:∀ i,c i=121∨c i=110):Row n (tx n c):=by
 have e:∀ i,i < n->ch (tx n c) i=c i:=fun i hi=>by
  have:=tx_at (c:=c) hi
  unfold ch tx
  simp [Array.getD_eq_getD_getElem?,hi]
 exact ⟨tx_len n c,fun i hi=>by rw [e i hi]; exact h i⟩
def fK (p:Str×Int):Key×V:=(.inr p.1,.int p.2)
theorem inr_eq {a b:Str}:((Sum.inr a:Key)=.inr b)↔a=b:=⟨fun h=>by injection h,fun h=>by rw [h]⟩
theorem any_fK (x:Str):∀ c:List (Str×Int),((c.map fK).any fun kv=>decide (kv.1=(Sum.inr x:Key)))=kprHas c x
 | []=>rfl
 | p :: r=>by
  rw [List.map_cons,List.any_cons,any_fK x r,kpr_has_cons]
  congr 1
  exact decide_eq_decide.mpr inr_eq
theorem valV_fK (x:Str):∀ c:List (Str×Int),valV (c.map fK) (.inr x)=if kprHas c x=true then some (.int (kprLook c x 0)) else none
 | []=>rfl
 | p :: r=>by
  rw [List.map_cons]
  by_cases e:p.1=x
  ·rw [valV_pos (p:=fK p) (inr_eq.mpr e),kpr_has_cons,decide_eq_true e,Bool.true_or,if_pos rfl,kpr_look_cons,if_pos e]
   rfl
  ·rw [valV_neg (p:=fK p) (fun z=>e (inr_eq.mp z)),valV_fK x r,kpr_has_cons,decide_eq_false e,Bool.false_or,kpr_look_cons,if_neg e]
theorem putK_fK (c:List (Str×Int)) (x:Str) (v:Int):putK (c.map fK) (.inr x) (.int v)=(kprPut c x v).map fK:=by
 unfold putK
 rw [any_fK]
 by_cases h:kprHas c x=true
 ·rw [if_pos h,kpr_put_old h,List.map_map,List.map_map]
  refine List.map_congr_left fun p _=>?_
  show (if (Sum.inr p.1:Key)=.inr x then ((Sum.inr p.1:Key),V.int v) else fK p)=fK (kprSet x v p)
  by_cases e:p.1=x
  ·rw [if_pos (inr_eq.mpr e),kprSet_yes e]; rfl
  ·rw [if_neg (fun z=>e (inr_eq.mp z)),kprSet_no e]
 ·rw [if_neg h,kpr_put_new (by simpa using h),List.map_append]
  rfl
theorem dropK_fK (x:Str):∀ c:List (Str×Int),dropK (c.map fK) (.inr x)=(kprDel c x).map fK
 | []=>rfl
 | p :: r=>by
  have ih:=dropK_fK x r
  unfold dropK at ih ⊢
  rw [List.map_cons,List.filter_cons,kpr_del_cons]
  by_cases e:p.1=x
  ·rw [if_neg (by simp [fK,e]),if_pos e]; exact ih
  ·rw [if_pos (by simp [fK,e]),if_neg e,List.map_cons,ih]
theorem sum_del (k:Str):∀{c:List (Str×Int)},(c.map (·.1)).Nodup->kprSum (kprDel c k)=kprSum c - kprLook c k 0
 | [],_=>rfl
 | p :: r,h=>by
  rw [List.map_cons,List.nodup_cons] at h
  have ih:=sum_del k h.2
  rw [kpr_del_cons,kpr_look_cons,kpr_sum_cons]
  by_cases e:p.1=k
  ·rw [if_pos e,if_pos e]
   have hn:kprHas r k=false:=kpr_has_false.mpr (by rw [<- e]; exact h.1)
   rw [kpr_del_none hn]
   omega
  ·rw [if_neg e,if_neg e,kpr_sum_cons,ih]
   omega
structure Kept (rs:List Str) (c:List (Str×Int)):Prop where
 nd:(c.map (·.1)).Nodup
 look:∀ x,kprLook c x 0=(rs.count x:Nat)
 pos:∀ p∈c,0 < p.2
 sum:kprSum c=(rs.length:Nat)
theorem Kept.nil:Kept [] []:=⟨List.nodup_nil,fun _=>rfl,fun _ h=>(by cases h),rfl⟩
theorem look_mem:∀{c:List (Str×Int)}{x:Str},kprHas c x=true->∃ p∈c,p.1=x/\kprLook c x 0=p.2
 | [],_,h=>by cases h
 | p :: r,x,h=>by
  rw [kpr_look_cons]
  by_cases e:p.1=x
  ·exact ⟨p,List.mem_cons_self,e,if_pos e⟩
  ·rw [kpr_has_cons,decide_eq_false e,Bool.false_or] at h
   obtain ⟨q,hq,e1,e2⟩:=look_mem h
   exact ⟨q,List.mem_cons_of_mem _ hq,e1,by rw [if_neg e]; exact e2⟩
theorem Kept.has {rs:List Str}{c:List (Str×Int)}(h:Kept rs c) (x:Str):kprHas c x=true↔x∈rs:=by
 have l:=h.look x
 constructor
 ·intro y
  obtain ⟨p,hp,_,e2⟩:=look_mem y
  have:=h.pos p hp
  exact List.count_pos_iff.mp (by omega)
 ·intro y
  cases z:kprHas c x with
  | true=>rfl
  | false =>
   rw [kpr_look_none z 0] at l
   have:=List.count_pos_iff.mpr y
   omega
theorem put_pos {c:List (Str×Int)}{x:Str}{v:Int}(h:∀ p∈c,0 < p.2) (hv:0 < v):∀ p∈kprPut c x v,0 < p.2:=by
 intro p hp
 cases z:kprHas c x with
 | true =>
  rw [kpr_put_old z] at hp
  obtain ⟨q,hq,rfl⟩:=List.mem_map.mp hp
  by_cases e:q.1=x
  ·rw [kprSet_yes e]; exact hv
  ·rw [kprSet_no e]; exact h q hq
 | false =>
  rw [kpr_put_new z] at hp
  rcases List.mem_append.mp hp with hp | hp
  ·exact h p hp
  ·rw [List.mem_singleton.mp hp]; exact hv
theorem Kept.add {rs:List Str}{c:List (Str×Int)}(h:Kept rs c) (x:Str):Kept (x :: rs) (kprPut c x (kprLook c x 0 + 1)):=by
 have l:=h.look x
 refine ⟨kpr_nodup h.nd _ _,fun y=>?_,put_pos h.pos (by omega),?_⟩
 ·rw [kpr_look_put,List.count_cons]
  by_cases e:y=x
  ·subst e
   rw [if_pos rfl,l]
   simp
  ·rw [if_neg e,h.look y]
   have:(x == y)=false:=by simpa using fun z=>e z.symm
   simp [this]
 ·rw [kpr_sum_put h.nd,h.sum,List.length_cons]
  omega
theorem Kept.perm {rs rs':List Str}{c:List (Str×Int)}(h:Kept rs c) (p:rs.Perm rs'):Kept rs' c :=
 ⟨h.nd,fun x=>by rw [h.look x,p.count_eq],h.pos,by rw [h.sum,p.length_eq]⟩
theorem Kept.less {rs:List Str}{c:List (Str×Int)}{x:Str}(h:Kept (x :: rs) c) (ne:¬ kprLook c x 0 - 1=0):Kept rs (kprPut c x (kprLook c x 0 - 1)):=by
 have l:=h.look x
 rw [List.count_cons_self] at l
 refine ⟨kpr_nodup h.nd _ _,fun y=>?_,put_pos h.pos (by omega),?_⟩
 ·rw [kpr_look_put]
  by_cases e:y=x
  ·subst e
   rw [if_pos rfl,l]
   omega
  ·rw [if_neg e,h.look y,List.count_cons]
   have:(x == y)=false:=by simpa using fun z=>e z.symm
   simp [this]
 ·have:=h.sum
  rw [List.length_cons] at this
  rw [kpr_sum_put h.nd,this]
  omega
theorem Kept.gone {rs:List Str}{c:List (Str×Int)}{x:Str}(h:Kept (x :: rs) c) (ne:kprLook c x 0 - 1=0):Kept rs (kprDel (kprPut c x (kprLook c x 0 - 1)) x):=by
 have l:=h.look x
 rw [List.count_cons_self] at l
 have nd:=kpr_nodup h.nd x (kprLook c x 0 - 1)
 refine ⟨kpr_del_nodup nd _,fun y=>?_,fun p hp=>?_,?_⟩
 ·rw [kpr_del_look,kpr_look_put]
  by_cases e:y=x
  ·subst e
   rw [if_pos rfl]
   omega
  ·rw [if_neg e,if_neg e,h.look y,List.count_cons]
   have:(x == y)=false:=by simpa using fun z=>e z.symm
   simp [this]
 ·unfold kprDel at hp
  obtain ⟨hp,e⟩:=List.mem_filter.mp hp
  have e:¬ p.1=x:=by simpa using e
  cases z:kprHas c x with
  | true =>
   rw [kpr_put_old z] at hp
   obtain ⟨q,hq,rfl⟩:=List.mem_map.mp hp
   rw [kprSet_key] at e
   rw [kprSet_no e]
   exact h.pos q hq
  | false =>
   rw [kpr_put_new z] at hp
   rcases List.mem_append.mp hp with hp | hp
   ·exact h.pos p hp
   ·rw [List.mem_singleton.mp hp] at e; exact absurd rfl e
 ·have:=h.sum
  rw [List.length_cons] at this
  rw [sum_del x nd,kpr_look_put,if_pos rfl,kpr_sum_put h.nd,this]
  omega
theorem fK_vals (c:List (Str×Int)):(c.map fK).map (·.2)=(c.map (·.2)).map V.int:=by rw [List.map_map,List.map_map]; rfl
def cntB (rs:List Str) (q a r b:Nat):Nat:=rs.countP fun x=>decide (ch x q=a/\ch x r=b)
def bk (q a r b:Nat):List Key:=[.inl q,.inr ⟨#[a]⟩,.inl r,.inr ⟨#[b]⟩]
theorem bk_eq {q a r b q' a' r' b':Nat}:bk q a r b=bk q' a' r' b'↔q=q'/\a=a'/\r=r'/\b=b':=by
 constructor
 ·intro h
  injection h with h1 h
  injection h with h2 h
  injection h with h3 h
  injection h with h4 h
  injection h1 with h1
  injection h2 with h2
  injection h3 with h3
  injection h4 with h4
  have e2:a=a':=by injection h2 with h2; simpa using h2
  have e4:b=b':=by injection h4 with h4; simpa using h4
  exact ⟨by omega,e2,by omega,e4⟩
 ·rintro ⟨rfl,rfl,rfl,rfl⟩
  rfl
def Both (n:Nat) (f:Nat->Nat->Nat->Nat->Int) (bvs:List (List Key×V)):Prop:=∀ q a r b,q < n->r < n->(valV bvs (bk q a r b)).getD (.int 0)=.int (f q a r b)
theorem Both.nil {n:Nat}:Both n (fun _ _ _ _=>0) []:=fun _ _ _ _ _ _=>rfl
theorem Both.congr {n:Nat}{f g:Nat->Nat->Nat->Nat->Int}{bvs:List (List Key×V)}(h:Both n f bvs) (e:∀ q a r b,q < n->r < n->f q a r b=g q a r b):Both n g bvs:=fun q a r b hq hr=>by rw [h q a r b hq hr,e q a r b hq hr]
def tlF (f:Nat->Nat->Nat->Nat->Int) (x:Str) (by':Int) (i j:Nat) (q a r b:Nat):Int:=f q a r b + if (q < i∨(q=i/\r < j))/\ch x q=a/\ch x r=b then by' else 0
theorem Both.step {n:Nat}{f:Nat->Nat->Nat->Nat->Int}{x:Str}{d:Int}{i j:Nat}{bvs:List (List Key×V)}(h:Both n (tlF f x d i j) bvs) (hi:i < n) (hj:j < n) :
  ∃ v:Int,(valV bvs (bk i (ch x i) j (ch x j))).getD (.int 0)=.int v/\Both n (tlF f x d i (j + 1)) (putK bvs (bk i (ch x i) j (ch x j)) (.int (v + d))):=by
 refine ⟨_,h i (ch x i) j (ch x j) hi hj,fun q a r b hq hr=>?_⟩
 rw [valV_put]
 by_cases e:bk q a r b=bk i (ch x i) j (ch x j)
 ·rw [if_pos e]
  obtain ⟨rfl,rfl,rfl,rfl⟩:=bk_eq.mp e
  show V.int _=_
  congr 1
  unfold tlF
  rw [if_neg (by omega),if_pos ⟨.inr ⟨rfl,by omega⟩,rfl,rfl⟩]
  omega
 ·rw [if_neg e,h q a r b hq hr]
  congr 1
  unfold tlF
  congr 1
  have:((q < i∨q=i/\r < j)/\ch x q=a/\ch x r=b)↔((q < i∨q=i/\r < j + 1)/\ch x q=a/\ch x r=b):=by
   constructor
   ·rintro ⟨z,e1,e2⟩
    exact ⟨by omega,e1,e2⟩
   ·rintro ⟨z,e1,e2⟩
    refine ⟨?_,e1,e2⟩
    rcases z with z | ⟨z1,z2⟩
    ·exact .inl z
    ·by_cases e3:r=j
     ·exfalso
      subst z1 e3
      exact e (bk_eq.mpr ⟨rfl,e1.symm,rfl,e2.symm⟩)
     ·exact .inr ⟨z1,by omega⟩
  by_cases p:(q < i∨q=i/\r < j)/\ch x q=a/\ch x r=b
  ·rw [if_pos p,if_pos (this.mp p)]
  ·rw [if_neg p,if_neg (fun z=>p (this.mpr z))]
theorem Both.turn {n:Nat}{f:Nat->Nat->Nat->Nat->Int}{x:Str}{d:Int}{i:Nat}{bvs:List (List Key×V)}(h:Both n (tlF f x d i n) bvs):Both n (tlF f x d (i + 1) 0) bvs :=
 h.congr fun q a r b hq hr=>by
  unfold tlF
  congr 1
  by_cases p:(q < i∨q=i/\r < n)/\ch x q=a/\ch x r=b
  ·rw [if_pos p,if_pos ⟨by omega,p.2⟩]
  ·rw [if_neg p,if_neg (fun z=>p ⟨by omega,z.2⟩)]
theorem Both.start {n:Nat}{f:Nat->Nat->Nat->Nat->Int}{x:Str}{d:Int}{bvs:List (List Key×V)}(h:Both n f bvs):Both n (tlF f x d 0 0) bvs :=
 h.congr fun q a r b hq hr=>by unfold tlF; rw [if_neg (by omega)]; omega
def cntF (rs:List Str) (q a r b:Nat):Int:=(cntB rs q a r b:Nat)
theorem cntB_cons (x:Str) (rs:List Str) (q a r b:Nat):cntB (x :: rs) q a r b=cntB rs q a r b + if ch x q=a/\ch x r=b then 1 else 0:=by
 unfold cntB
 rw [List.countP_cons]
 by_cases h:ch x q=a/\ch x r=b <;> simp [h]
theorem Both.add {n:Nat}{rs:List Str}{x:Str}{bvs:List (List Key×V)}(h:Both n (tlF (cntF rs) x 1 n 0) bvs):Both n (cntF (x :: rs)) bvs :=
 h.congr fun q a r b hq hr=>by
  unfold tlF cntF
  rw [cntB_cons]
  by_cases p:ch x q=a/\ch x r=b
  ·rw [if_pos ⟨.inl hq,p⟩,if_pos p]; omega
  ·rw [if_neg (fun z=>p z.2),if_neg p]; omega
theorem Both.take {n:Nat}{rs:List Str}{x:Str}{bvs:List (List Key×V)}(h:Both n (tlF (cntF (x :: rs)) x (-1) n 0) bvs):Both n (cntF rs) bvs :=
 h.congr fun q a r b hq hr=>by
  unfold tlF cntF
  rw [cntB_cons]
  by_cases p:ch x q=a/\ch x r=b
  ·rw [if_pos p,if_pos ⟨.inl hq,p⟩]; omega
  ·rw [if_neg p,if_neg (fun z=>p z.2)]; omega
theorem Both.perm {n:Nat}{rs rs':List Str}{bvs:List (List Key×V)}(h:Both n (cntF rs) bvs) (p:rs.Perm rs'):Both n (cntF rs') bvs :=
 h.congr fun q a r b _ _=>by unfold cntF cntB; rw [p.countP_eq]
end L2
namespace K63
open PySem L2
abbrev s_ccount:Stmt:=top 15
abbrev s_cquest:Stmt:=top 16
abbrev s_csign:Stmt:=top 17
abbrev s_cans:Stmt:=top 18
abbrev s_crow:Stmt:=top 19
abbrev s_isrow:Stmt:=top 22
abbrev s_only:Stmt:=top 24
structure Gm (mg:Str->Option Value):Prop where
 enum:mg "enumerate" = none
 sum:mg "sum" = none
 sorted:mg "sorted" = none
 dict:mg "dict" = none
 most:∃ t,mg "MOST_QUESTIONS" = some (.int 12 t)
 signs:∃ t,mg "SIGNS" = some (.str "ny" t)
def Sign (a:Nat):Prop:=a=121∨a=110
section
variable {P:Program}{w:World}{K:PySem.W.Frag}{mg:Str->Option Value}{base:Heap}
def spCcount:Sp:=fun vs H Q _=>∃ n:Nat,vs=[.int n]/\1<=n/\n<=12/\Q .non H
theorem sc_ccount:FnScope ["questions"] ["questions"] (defScope s_ccount):=⟨rfl,rfl,rfl,by decide +kernel,rfl,by decide +kernel,by decide +kernel⟩
theorem ok_ccount {f:Addr}{fd:FuncData}(D:Df K mg "check_count" s_ccount ["questions"] f fd) (M:Gm mg):FnOk P w K mg base (CXE P w) 1 f fd ["questions"] spCcount:=by
 refine D.F.okN sc_ccount (fun vs H Q E h=>?_) (fun cdv A outer s H vs Q E hr h=>?_)
 ·obtain ⟨n,rfl,_⟩:=h
  rfl
 ·obtain ⟨n,rfl,n1,n12,q⟩:=h
  obtain ⟨t,mQ⟩:=M.most
  refine ⟨_,pss_one (ps_if (PW.pt (pw_or (pt_cmpR op_lt (pv 0) pe_int (nomark _)) (pw_or1 (pt_cmpR op_gt (pv 0) (pe_glob (v:=.int 12) (by rfl) mQ ⟨t,rfl⟩) (nomark _))))) (pss_one ps_never) pss_nil),?_⟩
  refine ⟨_,rfl,_,_,rfl,rfl,_,rfl,ite2 (fun c=>?_) (fun _=>?_)⟩
  ·have c:(n:Int) < 1:=of_decide_eq_true c
   omega
  ·refine ⟨_,rfl,_,_,rfl,rfl,_,rfl,ite2 (fun c=>?_) (fun _=>q)⟩
   have c:(12:Int) < n:=of_decide_eq_true c
   omega
def spCquest:Sp:=fun vs H Q _=>∃ q n:Nat,vs=[.int q,.int n]/\q < n/\Q .non H
abbrev Pcq:List Str:=["question", "questions"]
theorem sc_cquest:FnScope Pcq Pcq (defScope s_cquest):=⟨rfl,rfl,rfl,by decide +kernel,rfl,by decide +kernel,by decide +kernel⟩
theorem ok_cquest {f:Addr}{fd:FuncData}(D:Df K mg "check_question" s_cquest Pcq f fd):FnOk P w K mg base (CXE P w) 1 f fd Pcq spCquest:=by
 refine D.F.okN sc_cquest (fun vs H Q E h=>?_) (fun cdv A outer s H vs Q E hr h=>?_)
 ·obtain ⟨q,n,rfl,_⟩:=h
  rfl
 ·obtain ⟨q,n,rfl,hq,k⟩:=h
  refine ⟨_,pss_one (ps_if (PW.pt (pw_or (pt_cmpR op_lt (pv 0) pe_int (nomark _)) (pw_or1 (pt_cmpR op_ge (pv 0) (pv 1) (nomark _))))) (pss_one ps_never) pss_nil),?_⟩
  refine ⟨_,rfl,_,_,rfl,rfl,_,rfl,ite2 (fun c=>?_) (fun _=>?_)⟩
  ·have c:(q:Int) < 0:=of_decide_eq_true c
   omega
  ·refine ⟨_,rfl,_,rfl,_,_,rfl,rfl,_,rfl,ite2 (fun c=>?_) (fun _=>k)⟩
   have c:(n:Int)<=q:=of_decide_eq_true c
   omega
def spCsign:Sp:=fun vs H Q _=>∃ a:Nat,vs=[s1 a]/\Sign a/\Q .non H
theorem sc_csign:FnScope ["sign"] ["sign"] (defScope s_csign):=⟨rfl,rfl,rfl,by decide +kernel,rfl,by decide +kernel,by decide +kernel⟩
theorem ok_csign {f:Addr}{fd:FuncData}(D:Df K mg "check_sign" s_csign ["sign"] f fd):FnOk P w K mg base (CXE P w) 1 f fd ["sign"] spCsign:=by
 refine D.F.okN sc_csign (fun vs H Q E h=>?_) (fun cdv A outer s H vs Q E hr h=>?_)
 ·obtain ⟨a,rfl,_⟩:=h
  rfl
 ·obtain ⟨a,rfl,ha,k⟩:=h
  refine ⟨_,pss_one (ps_if (PW.pt (pw_and (pt_cmpR op_ne (pv 0) pe_str (nomark _)) (pw_and1 (pt_cmpR op_ne (pv 0) pe_str (nomark _))))) (pss_one ps_never) pss_nil),?_⟩
  refine ⟨_,rfl,rfl,_,rfl,ite2 (fun c=>?_) (fun _=>iteF k)⟩
  refine ⟨_,rfl,rfl,_,rfl,ite2 (fun c2=>?_) (fun _=>k)⟩
  have c:(!decide (s1 a=s1 121))=true:=c
  have c2:(!decide (s1 a=s1 110))=true:=c2
  rw [dec_s1] at c c2
  rcases ha with e | e
  ·rw [e] at c; exact absurd c (by decide)
  ·rw [e] at c2; exact absurd c2 (by decide)
def spCans:Sp:=fun vs H Q _=>∃ q a r b n:Nat,vs=[.int q,s1 a,.int r,s1 b,.int n]/\q < n/\r < n/\Sign a/\Sign b/\Q .non H
abbrev Pca:List Str:=["q", "a", "r", "b", "questions"]
theorem sc_cans:FnScope Pca Pca (defScope s_cans):=⟨rfl,rfl,rfl,by decide +kernel,rfl,by decide +kernel,by decide +kernel⟩
theorem ok_cans {f fq fs:Addr}{fd gq gs:FuncData}(D:Df K mg "check_answers" s_cans Pca f fd) (Dq:Df K mg "check_question" s_cquest Pcq fq gq) (Ds:Df K mg "check_sign" s_csign ["sign"] fs gs):FnOk P w K mg base (CXE P w) 2 f fd Pca spCans:=by
 refine D.F.okN sc_cans (fun vs H Q E h=>?_) (fun cdv A outer s H vs Q E hr h=>?_)
 ·obtain ⟨q,a,r,b,n,rfl,_⟩:=h
  rfl
 ·obtain ⟨q,a,r,b,n,rfl,hq,hr',ha,hb,k⟩:=h
  refine ⟨_,pss_cons (ps_expr (pe_fn Dq (ok_cquest Dq) hr passN (pa_cons (pv 0) (pa_cons (pv 4) pa_nil))))
   (pss_cons (ps_expr (pe_fn Dq (ok_cquest Dq) hr passN (pa_cons (pv 2) (pa_cons (pv 4) pa_nil))))
   (pss_cons (ps_expr (pe_fn Ds (ok_csign Ds) hr passN (pa_cons (pv 1) pa_nil)))
   (pss_one (ps_expr (pe_fn Ds (ok_csign Ds) hr passN (pa_cons (pv 3) pa_nil)))))),?_⟩
  exact ⟨_,rfl,_,rfl,q,n,rfl,hq,_,rfl,_,rfl,r,n,rfl,hr',_,rfl,a,rfl,ha,_,rfl,b,rfl,hb,k⟩
def spOnly:Sp:=fun vs H Q _=>∃(x g:Str) (n:Nat),vs=[.str x,.str g]/\x.length=n/\(∀ i,i < n->ch x i∈g.cps.toList)/\n<=100/\∀ H',Same H H'->Q (.bl true) H'
abbrev Pon:List Str:=["text", "signs"]
theorem sc_only:FnScope Pon Pon (defScope s_only):=⟨rfl,rfl,rfl,by decide +kernel,rfl,by decide +kernel,by decide +kernel⟩
theorem nd_on:(["sign", "signs"]:List Str).Nodup:=by decide +kernel
theorem in_sg {g:Str}{a:Nat}(h:a∈g.cps.toList):(!(Builtin.Str.occurrences g ⟨#[a]⟩ 0 g.length 1).isEmpty)=true:=by
 rw [PySem.StrLaws.found_one]
 exact decide_eq_true h
theorem ny_in {a:Nat}(h:Sign a):a∈("ny" : Str).cps.toList:=by
 rcases h with rfl | rfl <;> decide +kernel
theorem ok_only {f:Addr}{fd:FuncData}(D:Df K mg "only_of" s_only Pon f fd) (B:Bt mg):FnOk P w K mg base (CXE P w) 1 f fd Pon spOnly:=by
 refine D.F.okN sc_only (fun vs H Q E h=>?_) (fun cdv A outer s H vs Q E hr h=>?_)
 ·obtain ⟨x,g,n,rfl,_⟩:=h
  rfl
 ·obtain ⟨x,g,n,rfl,hl,hx,hn,k⟩:=h
  refine ⟨_,pss_one (ps_ret (pe_callB (call_all rfl) (by rfl) B.all (by rfl) (pa_cons
   (pe_comp (N':=["sign", "signs"]) (fm:=[none,some 1]) rfl ⟨rfl,by decide +kernel,by decide +kernel,rfl,rfl,rfl⟩
    (pi_str (pv 0)) (fun _ _ _ _=>pg_name (i:=0) nd_on rfl (Or.inl rfl)) (fun _ _ _ _=>pif_nil)
    (fun _ _ _ _=>pe_cmpR op_in_str (pv 0) (pv 1) (by rfl))) pa_nil))),?_⟩
  refine ⟨_,rfl,_,rfl,fun p hp=>?_⟩
  refine blk_str (fun i σ H2=>∃ u,σ=[u,some (.str g)]/\Same H H2/\H2 p=some (.lst ((List.range i).map fun _=>V.bl true))) ⟨none,rfl,Same.new hp,upd_same⟩ ?_ ?_
  ·rintro i σ H2 hi ⟨u,rfl,s2,e2⟩
   rw [hl] at hi
   refine turn_all ⟨_,rfl,_,rfl,_,_,rfl,rfl,_,e2,small_rng _ _ (by omega),_,rfl,Same.grow hp s2,?_⟩
   rw [upd_same,<- map_snoc]
   have e:=in_sg (hx i hi)
   show some (HO.lst (_ ++ [V.bl _]))=_
   rw [show (!(Builtin.Str.occurrences g ⟨#[x.cps.getD i 0]⟩ 0 g.length 1).isEmpty)=true from e]
  ·rintro σ H2 ⟨u,rfl,s2,e2⟩
   rw [map_bl] at e2
   refine ⟨p,_,rfl,SqL.of e2,?_⟩
   have e:(((List.range x.length).map fun _=>true).all id)=true:=by simp
   rw [e]
   exact k H2 s2
def spIsrow:Sp:=fun vs H Q _=>∃(x:Str) (n:Nat),vs=[.str x,.int n]/\Row n x/\1<=n/\n<=12/\∀ H',Same H H'->Q (.bl true) H'
abbrev Pir:List Str:=["row", "questions"]
theorem sc_isrow:FnScope Pir Pir (defScope s_isrow):=⟨rfl,rfl,rfl,by decide +kernel,rfl,by decide +kernel,by decide +kernel⟩
theorem ok_isrow {f fc fo:Addr}{fd gc go:FuncData}(D:Df K mg "is_row" s_isrow Pir f fd) (Dc:Df K mg "check_count" s_ccount ["questions"] fc gc) (Do:Df K mg "only_of" s_only Pon fo go) (B:Bt mg) (M:Gm mg):FnOk P w K mg base (CXE P w) 2 f fd Pir spIsrow:=by
 refine D.F.okN sc_isrow (fun vs H Q E h=>?_) (fun cdv A outer s H vs Q E hr h=>?_)
 ·obtain ⟨x,n,rfl,_⟩:=h
  rfl
 ·obtain ⟨x,n,rfl,hx,n1,n12,k⟩:=h
  obtain ⟨t,mS⟩:=M.signs
  refine ⟨_,pss_cons (ps_expr (pe_fn Dc (ok_ccount Dc M) hr passN (pa_cons (pv 1) pa_nil)))
   (pss_one (ps_ret (pe_and (pe_cmpR op_eq (pe_callB call_len_str (by rfl) B.len PySem.boot_len (pa_cons (pv 0) pa_nil)) (pv 1) (nomark _))
    (pe_one (pe_fn Do (ok_only Do B) hr passN (pa_cons (pv 0) (pa_cons (pe_glob (v:=.str "ny") (by rfl) mS ⟨t,rfl⟩) pa_nil))))))),?_⟩
  refine ⟨_,rfl,n,rfl,n1,n12,_,rfl,_,rfl,?_,_,rfl,rfl,_,rfl,ite2 (fun _=>?_) (fun c=>?_)⟩
  ·rw [hx.len]; exact len_le (show n<=100 by omega)
  ·exact ⟨_,rfl,x, "ny",n,rfl,hx.len,fun i hi=>ny_in (hx.bin i hi),by omega,k⟩
  ·exact absurd (decide_eq_true (by rw [hx.len])) c
def spCrow:Sp:=fun vs H Q _=>∃(x:Str) (n:Nat),vs=[.str x,.int n]/\Row n x/\1<=n/\n<=12/\∀ H',Same H H'->Q .non H'
theorem sc_crow:FnScope Pir Pir (defScope s_crow):=⟨rfl,rfl,rfl,by decide +kernel,rfl,by decide +kernel,by decide +kernel⟩
theorem ok_crow {f fi:Addr}{fd gi:FuncData}(D:Df K mg "check_row" s_crow Pir f fd) (Di:Df K mg "is_row" s_isrow Pir fi gi) (Gi:FnOk P w K mg base (CXE P w) 2 fi gi Pir spIsrow):FnOk P w K mg base (CXE P w) 3 f fd Pir spCrow:=by
 refine D.F.okN sc_crow (fun vs H Q E h=>?_) (fun cdv A outer s H vs Q E hr h=>?_)
 ·obtain ⟨x,n,rfl,_⟩:=h
  rfl
 ·obtain ⟨x,n,rfl,hx,n1,n12,k⟩:=h
  refine ⟨_,pss_one (ps_if (pt_not (pt_val (pe_fn Di Gi hr passN (pa_cons (pv 0) (pa_cons (pv 1) pa_nil))))) (pss_one ps_never) pss_nil),?_⟩
  exact ⟨_,rfl,_,rfl,x,n,rfl,hx,n1,n12,fun H' s'=>⟨_,rfl,iteF (k H' s')⟩⟩
end
end K63
namespace K63
open PySem L2 PySem.W
open PyProof.Rows (envOfC)
abbrev s_init:Stmt:=inClass (top 42) 0
abbrev s_add:Stmt:=inClass (top 42) 1
abbrev s_take:Stmt:=inClass (top 42) 2
abbrev s_tally:Stmt:=inClass (top 42) 3
abbrev s_many:Stmt:=inClass (top 42) 4
abbrev s_tcount:Stmt:=inClass (top 42) 6
structure Tb (K:PySem.W.Frag) (mg:Str->Option Value) (C fi fa ft fy fm fc:Addr) (gi ga gt gy gm gc:FuncData):Prop where
 mC:mg "Table" = some (.ref C)
 cl:Cls K C
 mkC:Mk K C fi
 nQ:NoAttr K C "questions"
 nK:NoAttr K C "kept"
 nB:NoAttr K C "both"
 ma:Meth K C "add" fa
 mt:Meth K C "take" ft
 my:Meth K C "tally" fy
 mm:Meth K C "many" fm
 mc:Meth K C "count" fc
 Fi:Fun K "__init__" "Table.__init__" s_init fi gi
 Fa:Fun K "add" "Table.add" s_add fa ga
 Ft:Fun K "take" "Table.take" s_take ft gt
 Fy:Fun K "tally" "Table.tally" s_tally fy gy
 Fm:Fun K "many" "Table.many" s_many fm gm
 Fc:Fun K "count" "Table.count" s_tcount fc gc
 bi:Binds K gi ["self", "questions"] []
 ba:Binds K ga ["self", "row"] []
 bt:Binds K gt ["self", "row"] []
 by':Binds K gy ["self", "row", "by"] []
 bm:Binds K gm ["self"] []
 bc:Binds K gc ["self", "q", "a", "r", "b"] []
def tfs (n:Nat) (kp bt:Addr):List (Str×V):=[("questions",.int n),("kept",.ref kp),("both",.ref bt)]
structure TabAt (C:Addr) (H:Hp) (t dx kp bt:Addr) (n m:Nat) (rs:List Str):Prop where
 ins:H t=some (.ins C dx (tfs n kp bt))
 ex:∃ c bvs,H kp=some (.dK (c.map fK))/\H bt=some (.dT bvs)/\Kept rs c/\Both n (cntF rs) bvs/\c.length<=m/\bvs.length<=144 * m
def Keep2 (kp bt:Addr) (H H':Hp):Prop:=∀ b o,b≠kp->b≠bt->H b=some o->H' b=some o
def Keep1 (bt:Addr) (H H':Hp):Prop:=∀ b o,b≠bt->H b=some o->H' b=some o
section
variable {P:Program}{w:World}{K:PySem.W.Frag}{mg:Str->Option Value}{base:Heap}{C fi fa ft fy fm fc:Addr}{gi ga gt gy gm gc:FuncData}
def spTally (C:Addr):Sp:=fun vs H Q _=>∃(t dx kp bt:Addr) (n:Nat) (x:Str) (d:Int) (f:Nat->Nat->Nat->Nat->Int) (bvs:List (List Key×V)),vs=[.ref t,.str x,.int d]/\H t=some (.ins C dx (tfs n kp bt))/\H bt=some (.dT bvs) /\
 Both n f bvs/\bvs.length<=200000/\Row n x/\n<=12/\∀ H' bvs',H' bt=some (.dT bvs')->Both n (tlF f x d n 0) bvs'->bvs'.length<=bvs.length + 144->Keep1 bt H H'->Q .non H'
abbrev Nt:List Str:=["self", "row", "by", "q", "a", "r", "b", "pair"]
theorem sc_tally:FnScope Nt ["self", "row", "by"] (defScope s_tally):=⟨rfl,rfl,rfl,by decide +kernel,rfl,by decide +kernel,by decide +kernel⟩
theorem ok_tally (T:Tb K mg C fi fa ft fy fm fc gi ga gt gy gm gc) (M:Gm mg):FnOk P w K mg base (CXE P w) 1 fy gy ["self", "row", "by"] (spTally C):=by
 refine T.Fy.okN sc_tally (fun vs H Q E h=>?_) (fun cdv A outer s H vs Q E hr h=>?_)
 ·obtain ⟨t,dx,kp,bt,n,x,d,f,bvs,rfl,_⟩:=h
  rfl
 ·obtain ⟨t,dx,kp,bt,n,x,d,f,bvs,rfl,ht,hb,hB,hl,hx,n12,k⟩:=h
  have hu:(A.deeper (envOfC "Table.tally" (defScope s_tally) s.heap.objs.size fy cdv)).units + 1 < cLine:=by have:=hr.units; omega
  refine ⟨_,pss_one (ps_for PassesOwn.never rfl (pi_enum (by rfl) M.enum (pa_cons (pv 1) pa_nil)) (pg_tup rfl (pgs_cons (pg_name (i:=3) sc_tally.nd rfl (Or.inl rfl)) (pgs_cons (pg_name (i:=4) sc_tally.nd rfl (Or.inl rfl)) pgs_nil)))
   (pss_one (ps_for PassesOwn.never rfl (pi_enum (by rfl) M.enum (pa_cons (pv 1) pa_nil)) (pg_tup rfl (pgs_cons (pg_name (i:=5) sc_tally.nd rfl (Or.inl rfl)) (pgs_cons (pg_name (i:=6) sc_tally.nd rfl (Or.inl rfl)) pgs_nil)))
    (pss_cons (ps_set (i:=7) sc_tally.nd rfl (Or.inl rfl) (pe_tup (pa_cons (pv 3) (pa_cons (pv 4) (pa_cons (pv 5) (pa_cons (pv 6) pa_nil))))))
    (pss_one (ps_dput hu (pe_fld (pv 0) rfl) (pv 7) (pe_op op_add (pe_dget2 hu (pe_fld (pv 0) rfl) (pv 7) pe_int ⟨rfl,rfl,rfl,rfl⟩) (pv 2)) rfl)))))),?_⟩
  have keep:∀{H2:Hp} {T:Addr} {o:HO},Keep1 bt H H2->H2 T=none->Keep1 bt H (upd H2 T o):=fun kk hT b o hb e=>Same.new hT b o (kk b o hb e)
  have tbt:t≠bt:=fun z=>by rw [z,hb] at ht; cases ht
  refine ⟨_,rfl,x,rfl,for_enum (fun i σ H2=>∃ v3 v4 v5 v6 v7 bvs2,σ=[some (.ref t),some (.str x),some (.int d),v3,v4,v5,v6,v7]/\H2 bt=some (.dT bvs2)/\Both n (tlF f x d i 0) bvs2/\bvs2.length<=bvs.length + 12 * i/\Keep1 bt H H2)
   ⟨none,none,none,none,none,bvs,rfl,hb,hB.start,Nat.le_refl _,fun b o _ e=>e⟩ ?_ ?_⟩
  ·rintro i T1 σ H2 hi hT ⟨v3,v4,v5,v6,v7,bvs2,rfl,e2,hB2,l2,k2⟩
   rw [hx.len] at hi
   refine ⟨T1,_,rfl,SqT.of upd_same,rfl,_,_,rfl,_,_,rfl,rfl,?_⟩
   refine ⟨_,rfl,x,rfl,for_enum (fun j σ H3=>∃ v5 v6 v7 bvs3,σ=[some (.ref t),some (.str x),some (.int d),some (.int i),some (sg x i),v5,v6,v7]/\H3 bt=some (.dT bvs3)/\Both n (tlF f x d i j) bvs3/\bvs3.length<=bvs.length + 12 * i + j/\Keep1 bt H H3)
    ⟨_,_,_,bvs2,rfl,Same.new hT _ _ e2,hB2,l2,keep k2 hT⟩ ?_ ?_⟩
   ·rintro j T2 σ H3 hj hT2 ⟨u5,u6,u7,bvs3,rfl,e3,hB3,l3,k3⟩
    rw [hx.len] at hj
    refine ⟨T2,_,rfl,SqT.of upd_same,rfl,_,_,rfl,_,_,rfl,rfl,?_⟩
    refine ⟨_,rfl,_,rfl,_,rfl,_,rfl,len_le (show 4<=100 by decide),fun T3 hT3=>?_⟩
    obtain ⟨v,ev,hB4⟩:=hB3.step hi hj
    have k4:=keep (o:=.tup [.int i,sg x i,.int j,sg x j]) (keep (o:=.tup [.int j,sg x j]) k3 hT2) hT3
    have e4:=Same.new (o:=.tup [.int i,sg x i,.int j,sg x j]) hT3 _ _ (Same.new (o:=.tup [.int j,sg x j]) hT2 _ _ e3)
    have t4:=k4 t _ tbt ht
    have eT:upd (upd H3 T2 (.tup [.int j,sg x j])) T3 (.tup [.int i,sg x i,.int j,sg x j]) T3=some (.tup ((bk i (ch x i) j (ch x j)).map kV)):=upd_same
    refine ⟨_,rfl,t,C,dx,_,_,rfl,t4,T.cl,T.nB,rfl,bt,rfl,.inr ⟨_,.inl e4⟩,_,rfl,_,DGet.t e4 eT,_,rfl,_,_,ev,rfl,?_⟩
    refine ⟨_,rfl,t,C,dx,_,_,rfl,t4,T.cl,T.nB,rfl,_,rfl,bt,_,rfl,DPut.t e4 eT ?_,?_⟩
    ·rw [sizeLine_eq]; omega
    have lp:=length_putK bvs3 (bk i (ch x i) j (ch x j)) (.int (v + d))
    exact ⟨_,_,_,_,rfl,upd_same,hB4,Nat.le_trans lp (by omega),fun b o hb' e=>by rw [upd_ne hb']; exact k4 b o hb' e⟩
   ·rintro σ H3 ⟨u5,u6,u7,bvs3,rfl,e3,hB3,l3,k3⟩
    rw [hx.len] at hB3 l3
    exact ⟨_,_,_,_,_,bvs3,rfl,e3,hB3.turn,by omega,k3⟩
  ·rintro σ H2 ⟨v3,v4,v5,v6,v7,bvs2,rfl,e2,hB2,l2,k2⟩
   rw [hx.len] at hB2 l2
   exact k H2 bvs2 e2 hB2 (by omega) k2
end
end K63
namespace K63
open PySem L2 PySem.W
open PyProof.Rows (envOfC)
section
variable {P:Program}{w:World}{K:PySem.W.Frag}{mg:Str->Option Value}{base:Heap}{C fi fa ft fy fm fc:Addr}{gi ga gt gy gm gc:FuncData}
def spTinit (C:Addr):Sp:=fun vs H Q _=>∃(t dx:Addr) (n:Nat),vs=[.ref t,.int n]/\H t=some (.ins C dx [])/\1<=n/\n<=12 /\
 ∀ H' kp bt,TabAt C H' t dx kp bt n 0 []->H kp=none->H bt=none->(∀ b o,b≠t->H b=some o->H' b=some o)->Q .non H'
theorem sc_init:FnScope ["self", "questions"] ["self", "questions"] (defScope s_init):=⟨rfl,rfl,rfl,by decide +kernel,rfl,by decide +kernel,by decide +kernel⟩
theorem putF_tfs (n:Nat) (kp bt:Addr):putF "both" (.ref bt) (putF "kept" (.ref kp) (putF "questions" (.int n) []))=tfs n kp bt:=rfl
theorem ok_tinit {fn:Addr}{gn:FuncData}(T:Tb K mg C fi fa ft fy fm fc gi ga gt gy gm gc) (Dc:Df K mg "check_count" s_ccount ["questions"] fn gn) (M:Gm mg):FnOk P w K mg base (CXE P w) 2 fi gi ["self", "questions"] (spTinit C):=by
 refine T.Fi.okN sc_init (fun vs H Q E h=>?_) (fun cdv A outer s H vs Q E hr h=>?_)
 ·obtain ⟨t,dx,n,rfl,_⟩:=h
  rfl
 ·obtain ⟨t,dx,n,rfl,ht,n1,n12,k⟩:=h
  refine ⟨_,pss_cons (ps_expr (pe_fn Dc (ok_ccount Dc M) hr passN (pa_cons (pv 1) pa_nil)))
   (pss_cons (ps_fld (pv 0) (pv 1) rfl) (pss_cons (ps_fld (pv 0) pe_dnewK rfl) (pss_one (ps_fld (pv 0) pe_dnewT rfl)))),?_⟩
  refine ⟨_,rfl,n,rfl,n1,n12,_,rfl,_,rfl,t,C,dx,_,rfl,ht,T.cl,T.nQ,(by decide),fun kp hkp=>?_⟩
  have hk:H kp=none:=none_of_upd hkp
  have kt:t≠kp:=fun z=>by rw [<- z,ht] at hk; cases hk
  have e1:upd (upd H t (.ins C dx (putF "questions" (.int n) []))) kp (.dK []) t=some (.ins C dx (putF "questions" (.int n) [])):=by rw [upd_ne kt]; exact upd_same
  refine ⟨_,rfl,t,C,dx,_,rfl,e1,T.cl,T.nK,(show 1 < 1000 by decide),fun bt hbt=>?_⟩
  have hb1:=none_of_upd hbt
  have hb:H bt=none:=none_of_upd (none_of_upd hb1)
  have bt':t≠bt:=fun z=>by rw [<- z,ht] at hb; cases hb
  have kb:kp≠bt:=fun z=>by rw [<- z,upd_same] at hb1; cases hb1
  have e2:upd (upd (upd (upd H t (.ins C dx (putF "questions" (.int n) []))) kp (.dK [])) t (.ins C dx (putF "kept" (.ref kp) (putF "questions" (.int n) [])))) bt (.dT []) t=some (.ins C dx (putF "kept" (.ref kp) (putF "questions" (.int n) []))):=by rw [upd_ne bt']; exact upd_same
  refine ⟨_,rfl,t,C,dx,_,rfl,e2,T.cl,T.nB,(show 2 < 1000 by decide),?_⟩
  refine k _ kp bt ⟨?_,[],[],?_,?_,Kept.nil,Both.nil,Nat.zero_le _,Nat.zero_le _⟩ hk hb fun b o hb' e=>?_
  ·rw [upd_same,putF_tfs]
  ·rw [upd_ne (Ne.symm kt),upd_ne kb,upd_ne (Ne.symm kt),upd_same]; rfl
  ·rw [upd_ne (Ne.symm bt'),upd_same]
  ·have b1:b≠kp:=fun z=>by rw [z,hk] at e; cases e
   have b2:b≠bt:=fun z=>by rw [z,hb] at e; cases e
   rw [upd_ne hb',upd_ne b2,upd_ne hb',upd_ne b1,upd_ne hb']
   exact e
def spTmany (C:Addr):Sp:=fun vs H Q _=>∃(t dx kp bt:Addr) (n m:Nat) (rs:List Str),vs=[.ref t]/\TabAt C H t dx kp bt n m rs/\Q (.int (rs.length:Nat)) H
theorem sc_many:FnScope ["self"] ["self"] (defScope s_many):=⟨rfl,rfl,rfl,by decide +kernel,rfl,by decide +kernel,by decide +kernel⟩
theorem ok_tmany (T:Tb K mg C fi fa ft fy fm fc gi ga gt gy gm gc) (M:Gm mg):FnOk P w K mg base (CXE P w) 1 fm gm ["self"] (spTmany C):=by
 refine T.Fm.okN sc_many (fun vs H Q E h=>?_) (fun cdv A outer s H vs Q E hr h=>?_)
 ·obtain ⟨t,dx,kp,bt,n,m,rs,rfl,_⟩:=h
  rfl
 ·obtain ⟨t,dx,kp,bt,n,m,rs,rfl,⟨ht,c,bvs,hk,hb,hK,hB,lc,lb⟩,k⟩:=h
  refine ⟨_,pss_one (ps_ret (pe_sumvals rfl (by rfl) M.sum (pe_fld (pv 0) rfl))),?_⟩
  refine ⟨_,rfl,t,C,dx,_,_,rfl,ht,T.cl,T.nK,rfl,kp,_,_,rfl,hk,fK_vals c,?_⟩
  rw [PySem.W.kpr_sum_vals,hK.sum]
  exact k
def spTcount (C:Addr):Sp:=fun vs H Q _=>∃(t dx kp bt:Addr) (n m:Nat) (rs:List Str) (q a r b:Nat),vs=[.ref t,.int q,s1 a,.int r,s1 b]/\TabAt C H t dx kp bt n m rs/\q < n/\r < n/\Sign a/\Sign b/\∀ H',Same H H'->Q (.int (cntB rs q a r b:Nat)) H'
abbrev Ptc:List Str:=["self", "q", "a", "r", "b"]
theorem sc_tcount:FnScope Ptc Ptc (defScope s_tcount):=⟨rfl,rfl,rfl,by decide +kernel,rfl,by decide +kernel,by decide +kernel⟩
theorem ok_tcount {fn:Addr}{gn:FuncData}(T:Tb K mg C fi fa ft fy fm fc gi ga gt gy gm gc) (Dn:Df K mg "check_answers" s_cans Pca fn gn) (Gn:FnOk P w K mg base (CXE P w) 2 fn gn Pca spCans):FnOk P w K mg base (CXE P w) 3 fc gc Ptc (spTcount C):=by
 refine T.Fc.okN sc_tcount (fun vs H Q E h=>?_) (fun cdv A outer s H vs Q E hr h=>?_)
 ·obtain ⟨t,dx,kp,bt,n,m,rs,q,a,r,b,rfl,_⟩:=h
  rfl
 ·obtain ⟨t,dx,kp,bt,n,m,rs,q,a,r,b,rfl,⟨ht,c,bvs,hk,hb,hK,hB,lc,lb⟩,hq,hr',ha,hb',k⟩:=h
  have hu:(A.deeper (envOfC "Table.count" (defScope s_tcount) s.heap.objs.size fc cdv)).units + 1 < cLine:=by have:=hr.units; omega
  refine ⟨_,pss_cons (ps_expr (pe_fn Dn Gn hr passN (pa_cons (pv 1) (pa_cons (pv 2) (pa_cons (pv 3) (pa_cons (pv 4) (pa_cons (pe_fld (pv 0) rfl) pa_nil)))))))
   (pss_one (ps_ret (pe_dget2 hu (pe_fld (pv 0) rfl) (pe_tup (pa_cons (pv 1) (pa_cons (pv 2) (pa_cons (pv 3) (pa_cons (pv 4) pa_nil))))) pe_int ⟨rfl,rfl,rfl,rfl⟩))),?_⟩
  refine ⟨_,rfl,_,rfl,_,rfl,_,rfl,_,rfl,t,C,dx,_,_,rfl,ht,T.cl,T.nQ,rfl,q,a,r,b,n,rfl,hq,hr',ha,hb',?_⟩
  refine ⟨_,rfl,t,C,dx,_,_,rfl,ht,T.cl,T.nB,rfl,bt,rfl,.inr ⟨_,.inl hb⟩,_,rfl,_,rfl,_,rfl,_,rfl,len_le (show 4<=100 by decide),fun p hp=>?_⟩
  have eT:upd H p (.tup [.int q,s1 a,.int r,s1 b]) p=some (.tup ((bk q a r b).map kV)):=upd_same
  refine ⟨_,DGet.t (Same.new hp _ _ hb) eT,?_⟩
  rw [hB q a r b hq hr']
  exact k _ (Same.new hp)
def spTadd (C:Addr):Sp:=fun vs H Q _=>∃(t dx kp bt:Addr) (n m:Nat) (rs:List Str) (x:Str),vs=[.ref t,.str x]/\TabAt C H t dx kp bt n m rs/\Row n x/\1<=n/\n<=12/\m<=1000 /\
 ∀ H',TabAt C H' t dx kp bt n (m + 1) (x :: rs)->Keep2 kp bt H H'->Q .non H'
abbrev Pta:List Str:=["self", "row"]
theorem sc_tadd:FnScope Pta Pta (defScope s_add):=⟨rfl,rfl,rfl,by decide +kernel,rfl,by decide +kernel,by decide +kernel⟩
theorem ok_tadd {fw:Addr}{gw:FuncData}(T:Tb K mg C fi fa ft fy fm fc gi ga gt gy gm gc) (Dw:Df K mg "check_row" s_crow Pir fw gw) (Gw:FnOk P w K mg base (CXE P w) 3 fw gw Pir spCrow) (M:Gm mg):FnOk P w K mg base (CXE P w) 4 fa ga Pta (spTadd C):=by
 refine T.Fa.okN sc_tadd (fun vs H Q E h=>?_) (fun cdv A outer s H vs Q E hr h=>?_)
 ·obtain ⟨t,dx,kp,bt,n,m,rs,x,rfl,_⟩:=h
  rfl
 ·obtain ⟨t,dx,kp,bt,n,m,rs,x,rfl,⟨ht,c,bvs,hk,hb,hK,hB,lc,lb⟩,hx,n1,n12,m1,k⟩:=h
  have hu:(A.deeper (envOfC "Table.add" (defScope s_add) s.heap.objs.size fa cdv)).units + 1 < cLine:=by have:=hr.units; omega
  refine ⟨_,pss_cons (ps_expr (pe_fn Dw Gw hr passN (pa_cons (pv 1) (pa_cons (pe_fld (pv 0) rfl) pa_nil))))
   (pss_cons (ps_dput hu (pe_fld (pv 0) rfl) (pv 1) (pe_op op_add (pe_dget2 hu (pe_fld (pv 0) rfl) (pv 1) pe_int ⟨rfl,rfl,rfl,rfl⟩) pe_int) rfl)
   (pss_one (ps_expr (pe_meth (pv 0) T.cl T.my (ok_tally T M) (hr.mono (by decide)) T.by' .nil passN (pa_cons (pv 1) (pa_cons pe_int pa_nil)))))),?_⟩
  refine ⟨_,rfl,_,rfl,t,C,dx,_,_,rfl,ht,T.cl,T.nQ,rfl,x,n,rfl,hx,n1,n12,fun H1 s1'=>?_⟩
  have t1:=s1' _ _ ht
  have k1:=s1' _ _ hk
  have b1:=s1' _ _ hb
  have ev:(valV (c.map fK) (.inr x)).getD (.int 0)=.int (PySem.W.kprLook c x 0):=by
   rw [valV_fK]
   split
   ·rfl
   ·rename_i z
    rw [PySem.W.kpr_look_none (by simpa using z)]
    rfl
  refine ⟨_,rfl,t,C,dx,_,_,rfl,t1,T.cl,T.nK,rfl,kp,rfl,.inl ⟨_,.inl k1⟩,_,rfl,_,DGet.k (k:=.inr x) k1,_,_,ev,rfl,?_⟩
  refine ⟨_,rfl,t,C,dx,_,_,rfl,t1,T.cl,T.nK,rfl,_,rfl,kp,_,rfl,DPut.k (k:=.inr x) k1 ?_,?_⟩
  ·rw [List.length_map,sizeLine_eq]; omega
  have tk:t≠kp:=fun z=>by rw [z,hk] at ht; cases ht
  have bk':bt≠kp:=fun z=>by rw [z,hk] at hb; cases hb
  have ek:putK (c.map fK) (.inr x) ((fun i j=>V.int (i + j)) (PySem.W.kprLook c x 0) 1)=(PySem.W.kprPut c x (PySem.W.kprLook c x 0 + 1)).map fK:=putK_fK c x _
  rw [ek]
  refine ⟨_,rfl,t,dx,_,rfl,(by rw [upd_ne tk]; exact t1),rfl,_,rfl,t,dx,kp,bt,n,x,1,cntF rs,bvs,rfl,(by rw [upd_ne tk]; exact t1),(by rw [upd_ne bk']; exact b1),hB,by omega,hx,n12,fun H' bvs' e' hB' l' k'=>?_⟩
  have lp:=length_putK (c.map fK) (.inr x) (.int (PySem.W.kprLook c x 0 + 1))
  rw [putK_fK,List.length_map,List.length_map] at lp
  refine k H' ⟨?_,_,bvs',k' kp _ (Ne.symm bk') upd_same,e',hK.add x,hB'.add,by omega,by omega⟩ fun b o h1 h2 e=>?_
  ·exact k' t _ (fun z=>by rw [z,hb] at ht; cases ht) (by rw [upd_ne tk]; exact t1)
  ·exact k' b o h2 (by rw [upd_ne h1]; exact s1' b o e)
def tDel (C:Addr):TS:=fun D σ H=>∃(t dx kp bt:Addr) (n:Nat) (x:Str) (c:List (Str×Int)),σ=[some (.ref t),some (.str x)]/\H t=some (.ins C dx (tfs n kp bt))/\H kp=some (.dK (c.map fK))/\PySem.W.kprHas c x=true /\
 ∀ H' c',H' kp=some (.dK (c'.map fK))->(PySem.W.kprLook c x 0=0->c'=PySem.W.kprDel c x)->(¬ PySem.W.kprLook c x 0=0->c'=c)->(∀ b o,b≠kp->H b=some o->H' b=some o)->D.nx σ H'
abbrev b_take (j:Nat):Stmt:=(defBody s_take).getD j (.Pass ⟨0,0,0,0⟩)
theorem sc_ttake:FnScope Pta Pta (defScope s_take):=⟨rfl,rfl,rfl,by decide +kernel,rfl,by decide +kernel,by decide +kernel⟩
theorem take_if {cdv:Value}{A:Around}{outer:List Env}{s:Shared}{H0:Hp}{E0':XK}(T:Tb K mg C fi fa ft fy fm fc gi ga gt gy gm gc) (hu:(A.deeper (envOfC "Table.take" (defScope s_take) s.heap.objs.size ft cdv)).units + 1 < cLine) :
  PS (cxOf (CXE P w) P w K mg base Pta "Table.take" (defScope s_take) ft cdv A outer s H0 E0').nox (b_take 3) (tDel C):=by
 refine ps_weak (ps_if (pt_cmpR op_eq (pe_dget hu (pe_fld (pv 0) rfl) (pv 1) (fun _ _=>rfl)) pe_int (nomark _)) (pss_one (ps_ddel (pe_fld (pv 0) rfl) (pv 1))) pss_nil) ?_
 rintro D σ H ⟨t,dx,kp,bt,n,x,c,rfl,ht,hk,hh,k⟩
 have ev:valV (c.map fK) (.inr x)=some (.int (PySem.W.kprLook c x 0)):=by rw [valV_fK,if_pos hh]
 refine ⟨_,rfl,t,C,dx,_,_,rfl,ht,T.cl,T.nK,rfl,_,rfl,kp,.int (PySem.W.kprLook c x 0),rfl,(by rw [<- ev]; exact DGet.k (k:=.inr x) hk),rfl,_,rfl,ite2 (fun z=>?_) (fun z=>?_)⟩
 ·have z:decide (V.int (PySem.W.kprLook c x 0)=V.int 0)=true:=z
  rw [dec_int] at z
  have z:PySem.W.kprLook c x 0=0:=by simpa using z
  refine ⟨_,rfl,t,C,dx,_,_,rfl,ht,T.cl,T.nK,rfl,_,rfl,kp,_,.inr x,rfl,hk,rfl,(by rw [ev]; rfl),?_⟩
  rw [dropK_fK]
  exact k _ _ upd_same (fun _=>rfl) (fun y=>absurd z y) fun b o hb e=>by rw [upd_ne hb]; exact e
 ·have z:¬ decide (V.int (PySem.W.kprLook c x 0)=V.int 0)=true:=z
  rw [dec_int] at z
  have z:¬ PySem.W.kprLook c x 0=0:=by simpa using z
  exact k H c hk (fun y=>absurd y z) (fun _=>rfl) fun b o _ e=>e
def spTtake (C:Addr):Sp:=fun vs H Q _=>∃(t dx kp bt:Addr) (n m:Nat) (rs0 rs:List Str) (x:Str),vs=[.ref t,.str x]/\TabAt C H t dx kp bt n m rs0/\rs0.Perm (x :: rs)/\Row n x/\1<=n/\n<=12/\m<=1000 /\
 ∀ H',TabAt C H' t dx kp bt n (m + 1) rs->Keep2 kp bt H H'->Q .non H'
theorem ok_ttake {fw:Addr}{gw:FuncData}(T:Tb K mg C fi fa ft fy fm fc gi ga gt gy gm gc) (Dw:Df K mg "check_row" s_crow Pir fw gw) (Gw:FnOk P w K mg base (CXE P w) 3 fw gw Pir spCrow) (M:Gm mg):FnOk P w K mg base (CXE P w) 4 ft gt Pta (spTtake C):=by
 refine T.Ft.okN sc_ttake (fun vs H Q E h=>?_) (fun cdv A outer s H vs Q E hr h=>?_)
 ·obtain ⟨t,dx,kp,bt,n,m,rs0,rs,x,rfl,_⟩:=h
  rfl
 ·obtain ⟨t,dx,kp,bt,n,m,rs0,rs,x,rfl,⟨ht,c,bvs,hk,hb,hK0,hB0,lc,lb⟩,hp,hx,n1,n12,m1,k⟩:=h
  have hK:=hK0.perm hp
  have hB:=hB0.perm hp
  have hu:(A.deeper (envOfC "Table.take" (defScope s_take) s.heap.objs.size ft cdv)).units + 1 < cLine:=by have:=hr.units; omega
  refine ⟨_,pss_cons (ps_expr (pe_fn Dw Gw hr passN (pa_cons (pv 1) (pa_cons (pe_fld (pv 0) rfl) pa_nil))))
   (pss_cons (ps_if (pt_cmp (pc_dnotin hu (pv 1) (pe_fld (pv 0) rfl))) (pss_one ps_never) pss_nil)
   (pss_cons (ps_daug hu (pe_fld (pv 0) rfl) (pv 1) pe_int in_sub (fun _ _ _=>rfl))
   (pss_cons (take_if T hu)
   (pss_one (ps_expr (pe_meth (pv 0) T.cl T.my (ok_tally T M) (hr.mono (by decide)) T.by' .nil passN (pa_cons (pv 1) (pa_cons (pe_un un_neg pe_int) pa_nil)))))))),?_⟩
  refine ⟨_,rfl,_,rfl,t,C,dx,_,_,rfl,ht,T.cl,T.nQ,rfl,x,n,rfl,hx,n1,n12,fun H1 s1'=>?_⟩
  have t1:=s1' _ _ ht
  have k1:=s1' _ _ hk
  have b1:=s1' _ _ hb
  have hh:PySem.W.kprHas c x=true:=(hK.has x).mpr List.mem_cons_self
  have ev:valV (c.map fK) (.inr x)=some (.int (PySem.W.kprLook c x 0)):=by rw [valV_fK,if_pos hh]
  refine ⟨_,rfl,_,rfl,t,C,dx,_,_,rfl,t1,T.cl,T.nK,rfl,kp,some (.int (PySem.W.kprLook c x 0)),rfl,(by rw [<- ev]; exact DGet.k (k:=.inr x) k1),_,rfl,iteF ?_⟩
  refine ⟨_,rfl,t,C,dx,_,_,rfl,t1,T.cl,T.nK,rfl,_,rfl,kp,.int (PySem.W.kprLook c x 0),rfl,(by rw [<- ev]; exact DGet.k (k:=.inr x) k1),_,_,rfl,rfl,_,DPut.k (k:=.inr x) k1 ?_,?_⟩
  ·rw [List.length_map,sizeLine_eq]; omega
  have tk:t≠kp:=fun z=>by rw [z,hk] at ht; cases ht
  have bk':bt≠kp:=fun z=>by rw [z,hk] at hb; cases hb
  have tb:t≠bt:=fun z=>by rw [z,hb] at ht; cases ht
  rw [putK_fK]
  have lp:=length_putK (c.map fK) (.inr x) (.int (PySem.W.kprLook c x 0 - 1))
  rw [putK_fK,List.length_map,List.length_map] at lp
  have t2:upd H1 kp (.dK ((PySem.W.kprPut c x (PySem.W.kprLook c x 0 - 1)).map fK)) t=some (.ins C dx (tfs n kp bt)):=by rw [upd_ne tk]; exact t1
  have b2:upd H1 kp (.dK ((PySem.W.kprPut c x (PySem.W.kprLook c x 0 - 1)).map fK)) bt=some (.dT bvs):=by rw [upd_ne bk']; exact b1
  refine ⟨t,dx,kp,bt,n,x,PySem.W.kprPut c x (PySem.W.kprLook c x 0 - 1),rfl,t2,upd_same,(by rw [PySem.W.kpr_has_put]; simp),fun H3 c' e3 z0 z1 k3=>?_⟩
  rw [PySem.W.kpr_look_put,if_pos rfl] at z0 z1
  have hK3:Kept rs c':=by
   by_cases z:PySem.W.kprLook c x 0 - 1=0
   ·rw [z0 z]; exact hK.gone z
   ·rw [z1 z]; exact hK.less z
  have lc':c'.length<=m + 1:=by
   by_cases z:PySem.W.kprLook c x 0 - 1=0
   ·rw [z0 z]
    have:=List.length_filter_le (fun p:Str×Int=>!decide (p.1=x)) (PySem.W.kprPut c x (PySem.W.kprLook c x 0 - 1))
    show (List.filter _ _).length<=_
    omega
   ·rw [z1 z]; omega
  have t3:=k3 t _ tk t2
  have b3:=k3 bt _ bk' b2
  refine ⟨_,rfl,t,dx,_,rfl,t3,rfl,_,rfl,_,rfl,t,dx,kp,bt,n,x,-1,cntF (x :: rs),bvs,rfl,t3,b3,hB,by omega,hx,n12,fun H' bvs' e' hB' l' k'=>?_⟩
  refine k H' ⟨k' t _ tb t3,c',bvs',k' kp _ (Ne.symm bk') e3,e',hK3,hB'.take,by omega,by omega⟩ fun b o h1 h2 e=>?_
  exact k' b o h2 (k3 b o h1 (by rw [upd_ne h1]; exact s1' b o e))
end
end K63
namespace L2
open PySem PySem.Spec PyProof.Rows
section
variable {X:Cx}
def rNeNil (K:PySem.W.Frag):R2:=fun x y H Q=>∃ a b xs,x=.ref a/\y=.ref b/\SqL K H a xs/\SqL K H b []/\Q (.bl (!xs.isEmpty)) H
theorem op_neNil (hu:X.A.units < cLine):OpR X (compareOp .NotEq) (rNeNil X.K):=by
 intro pins s σ H x y v u Q I rx ry h
 obtain ⟨a,b,xs,rfl,rfl,ha,hb,q⟩:=h
 cases rx
 cases ry
 obtain ⟨its,r1,p1,_⟩:=I.list ha
 obtain ⟨its2,r2,p2,_⟩:=I.list hb
 cases r2
 cases r1 with
 | nil=>exact PySem.EqBoolInt.of_rcne (SeqAt.RcNeAt.lists (e:=fun _=>true) p1.isList p2.isList rfl hu (fun j h1 _=>absurd h1 (by simp))) ⟨.bl false,H,I,rfl,q⟩
 | cons r t=>exact PySem.EqBoolInt.of_rcne (SeqAt.RcNeAt.lists_lengths p1.isList p2.isList (by simp) hu) ⟨.bl true,H,I,rfl,q⟩
end
def Tups (H:Hp) (rs:List Addr) (ks:List (List Key)):Prop:=rs.length=ks.length/\∀(i:Nat) (r:Addr) (k:List Key),rs[i]? = some r->ks[i]? = some k->H r=some (.tup (k.map kV))
theorem Tups.nil {H:Hp}:Tups H [] []:=⟨rfl,fun _ _ _ h=>by cases h⟩
theorem Tups.mono {H H':Hp}{rs:List Addr}{ks:List (List Key)}(h:Tups H rs ks) (s:Same H H'):Tups H' rs ks:=⟨h.1,fun i r k a b=>s _ _ (h.2 i r k a b)⟩
theorem Tups.upd {H:Hp}{rs:List Addr}{ks:List (List Key)}{p:Addr}{ys zs:List V}(h:Tups H rs ks) (hp:H p=some (.lst ys)):Tups (upd H p (.lst zs)) rs ks:=⟨h.1,fun i r k a b=>by
 have e:=h.2 i r k a b
 rw [upd_ne]
 ·exact e
 ·intro z
  rw [z,hp] at e
  cases e⟩
theorem Tups.append {H:Hp}{rs rs':List Addr}{ks ks':List (List Key)}(h:Tups H rs ks) (h':Tups H rs' ks'):Tups H (rs ++ rs') (ks ++ ks'):=by
 refine ⟨by rw [List.length_append,List.length_append,h.1,h'.1],fun i r k hr hk=>?_⟩
 by_cases hi:i < rs.length
 ·rw [List.getElem?_append_left hi] at hr
  rw [List.getElem?_append_left (by rw [<- h.1]; exact hi)] at hk
  exact h.2 i r k hr hk
 ·rw [List.getElem?_append_right (by omega)] at hr
  rw [List.getElem?_append_right (by rw [<- h.1]; omega),<- h.1] at hk
  exact h'.2 _ r k hr hk
theorem Tups.one {H:Hp}{T:Addr}{k:List Key}(h:H T=some (.tup (k.map kV))):Tups H [T] [k]:=by
 refine ⟨rfl,fun i r k' hr hk=>?_⟩
 cases i with
 | zero=>cases hr; cases hk; exact h
 | succ i=>cases hr
theorem Tups.snoc {H:Hp}{rs:List Addr}{ks:List (List Key)}{T:Addr}{k:List Key}(h:Tups H rs ks) (hT:H T=some (.tup (k.map kV))):Tups H (rs ++ [T]) (ks ++ [k]):=h.append (.one hT)
end L2
namespace L2
open PySem
theorem lturn_all {i:Nat}{tb:TBd}{N:St->Hp->Prop}{x:V}{σ:St}{H:Hp}(h:tb (σ.set i (some x)) H N):LTurn (gName i) tAll tb N x σ H:=iteT (B:=N (σ.set i (some x)) H) h
theorem lturn_tup2 {K:PySem.W.Frag}{i j:Nat}{tb:TBd}{N:St->Hp->Prop}{x y:V}{T:Addr}{σ:St}{H:Hp}(hT:SqT K H T [x,y]) (h:tb ((σ.set i (some x)).set j (some y)) H N):LTurn (gTup K 2 (gCons (gName i) (gCons (gName j) gNil))) tAll tb N (.ref T) σ H :=
 ⟨T,_,rfl,hT,rfl,_,_,rfl,_,_,rfl,rfl,iteT (B:=N ((σ.set i (some x)).set j (some y)) H) h⟩
theorem small_k (l:List (List Key)) (h:l.length<=1000):l.length < sizeLine:=Nat.lt_of_le_of_lt h (by decide)
structure Acc (H0:Hp) (p:Addr) (H:Hp) (ks:List (List Key)):Prop where
 same:Same H0 H
 at_:∃ rs:List Addr,H p=some (.lst (rs.map V.ref))/\Tups H rs ks
theorem Acc.put {H0 H H1:Hp}{p T:Addr}{ks:List (List Key)}{k:List Key}(A:Acc H0 p H ks) (hp:H0 p=none) (s:Same H H1) (hT:H1 T=none):∃ ys,upd H1 T (.tup (k.map kV)) p=some (.lst ys)/\ys.length=ks.length/\Acc H0 p (upd (upd H1 T (.tup (k.map kV))) p (.lst (ys ++ [.ref T]))) (ks ++ [k]):=by
 obtain ⟨s0,rs,e,t⟩:=A
 have s1:=s.trans' (Same.new (o:=.tup (k.map kV)) hT)
 have e1:=s1 _ _ e
 refine ⟨_,e1,by rw [List.length_map]; exact t.1,Same.grow hp (s0.trans' s1),rs ++ [T],?_,?_⟩
 ·rw [upd_same,List.map_append]
  rfl
 ·have t1:Tups (upd H1 T (.tup (k.map kV))) (rs ++ [T]) (ks ++ [k]):=(t.mono s1).snoc upd_same
  exact t1.upd e1
theorem Acc.mono {H0 H H1:Hp}{p:Addr}{ks:List (List Key)}(A:Acc H0 p H ks) (s:Same H H1):Acc H0 p H1 ks:=by
 obtain ⟨s0,rs,e,t⟩:=A
 exact ⟨s0.trans' s,rs,s _ _ e,t.mono s⟩
theorem Acc.back {H0 H1 H:Hp}{p:Addr}{ks:List (List Key)}(A:Acc H1 p H ks) (s:Same H0 H1):Acc H0 p H ks:=⟨s.trans' A.same,A.at_⟩
theorem Tups.item {H:Hp}{rs:List Addr}{ks:List (List Key)}(h:Tups H rs ks) {i:Nat}{x:V}(hi:(rs.map V.ref)[i]? = some x):∃ r k,x=.ref r/\ks[i]? = some k/\H r=some (.tup (k.map kV)):=by
 rw [List.getElem?_map] at hi
 cases z:rs[i]? with
 | none=>rw [z] at hi; cases hi
 | some r =>
  rw [z] at hi
  cases hi
  have il:i < rs.length:=(List.getElem?_eq_some_iff.mp z).1
  have e:ks[i]? = some (ks[i]'(by rw [<- h.1]; exact il)):=List.getElem?_eq_getElem (by rw [<- h.1]; exact il)
  exact ⟨r,_,rfl,e,h.2 i r _ z e⟩
def uptoL {α β:Type}(l:List α) (i:Nat) (F:α->List β):List β:=(l.take i).flatMap F
theorem uptoL_succ {α β:Type}{l:List α}{i:Nat}{a:α}{F:α->List β}(h:l[i]? = some a):uptoL l (i + 1) F=uptoL l i F ++ F a:=by
 unfold uptoL
 rw [List.take_add_one,h,List.flatMap_append]
 simp
theorem uptoL_len {α β:Type}{l:List α}{F:α->List β}{m:Nat}(h:∀ a,(F a).length<=m):∀ i,(uptoL l i F).length<=i * m
 | 0=>by simp [uptoL]
 | i + 1=>by
  cases e:l[i]? with
  | some a=>rw [uptoL_succ e,List.length_append,Nat.succ_mul]; exact Nat.add_le_add (uptoL_len h i) (h a)
  | none =>
   have:uptoL l (i + 1) F=uptoL l i F:=by unfold uptoL; rw [List.take_add_one,e]; simp
   rw [this,Nat.succ_mul]
   exact Nat.le_trans (uptoL_len h i) (Nat.le_add_right _ _)
def sk (q a:Nat):List Key:=[.inl q,.inr ⟨#[a]⟩]
def qk (q r:Nat):List Key:=[.inl q,.inl r]
structure Pat (n:Nat) (x:Str):Prop where
 len:x.length=n
 sgn:∀ i,i < n->ch x i=121∨ch x i=110∨ch x i=45
theorem Row.pat {n:Nat}{x:Str}(h:Row n x):Pat n x:=⟨h.len,fun i hi=>(h.bin i hi).imp id .inl⟩
def ansF (x:Str) (q:Nat):List (Nat×Nat):=if ch x q=45 then [] else [(q,ch x q)]
def ansG (x:Str) (n:Nat):List (Nat×Nat):=(List.range n).flatMap (ansF x)
theorem ansG_succ (x:Str) (n:Nat):ansG x (n + 1)=ansG x n ++ ansF x n:=by unfold ansG; rw [List.range_succ,List.flatMap_append]; simp
theorem ansG_len (x:Str):∀ n,(ansG x n).length<=n
 | 0=>by simp [ansG]
 | n + 1=>by
  rw [ansG_succ,List.length_append]
  have:(ansF x n).length<=1:=by unfold ansF; split <;> simp
  have:=ansG_len x n
  omega
theorem ansG_mem {x:Str}{n:Nat}{p:Nat×Nat}(h:p∈ansG x n):p.1 < n/\p.2=ch x p.1/\¬ p.2=45:=by
 obtain ⟨q,hq,h⟩:=List.mem_flatMap.mp h
 unfold ansF at h
 split at h
 ·cases h
 ·rename_i z
  rw [List.mem_singleton.mp h]
  exact ⟨List.mem_range.mp hq,rfl,z⟩
theorem mem_ansG {x:Str}{n q:Nat}(h:q < n) (z:¬ ch x q=45):(q,ch x q)∈ansG x n:=by
 refine List.mem_flatMap.mpr ⟨q,List.mem_range.mpr h,?_⟩
 unfold ansF
 rw [if_neg z]
 exact List.mem_singleton.mpr rfl
def skP (p:Nat×Nat):List Key:=sk p.1 p.2
def pgB (rs:List Str) (m:Nat) (p p':Nat×Nat):List (List Key):=if p.1<=p'.1/\cntB rs p.1 p.2 p'.1 p'.2=m then [qk p.1 p'.1] else []
def pgA (rs:List Str) (m:Nat) (G:List (Nat×Nat)) (p:Nat×Nat):List (List Key):=uptoL G G.length (pgB rs m p)
def pgM (rs:List Str) (m:Nat) (G:List (Nat×Nat)):List (List Key):=uptoL G G.length (pgA rs m G)
theorem pgB_len (rs:List Str) (m:Nat) (p p':Nat×Nat):(pgB rs m p p').length<=1:=by unfold pgB; split <;> simp
theorem pgA_len (rs:List Str) (m:Nat) (G:List (Nat×Nat)) (p:Nat×Nat):(pgA rs m G p).length<=G.length:=Nat.le_trans (uptoL_len (pgB_len rs m p) G.length) (by omega)
theorem cntB_comm (rs:List Str) (q a r b:Nat):cntB rs q a r b=cntB rs r b q a:=by
 unfold cntB
 congr 1
 funext x
 exact decide_eq_decide.mpr And.comm
def Borne (rs:List Str) (n:Nat) (x:Str):Prop:=∀ q r,q < n->r < n->0 < cntB rs q (ch x q) r (ch x r)
theorem borne_mem {rs:List Str}{n:Nat}{x:Str}(h:x∈rs):Borne rs n x:=fun q r _ _=>List.countP_pos_iff.mpr ⟨x,h,decide_eq_true ⟨rfl,rfl⟩⟩
theorem lack_nil {rs:List Str}{n:Nat}{x:Str}(h:Borne rs n x):pgM rs 0 (ansG x n)=[]:=by
 refine List.eq_nil_iff_forall_not_mem.mpr fun k hk=>?_
 obtain ⟨p,hp,hk⟩:=List.mem_flatMap.mp hk
 obtain ⟨p',hp',hk⟩:=List.mem_flatMap.mp hk
 obtain ⟨h1,h2,_⟩:=ansG_mem (List.mem_of_mem_take hp)
 obtain ⟨h3,h4,_⟩:=ansG_mem (List.mem_of_mem_take hp')
 have:=h p.1 p'.1 h1 h3
 unfold pgB at hk
 rw [if_neg (fun z=>by rw [h2,h4] at z; omega)] at hk
 cases hk
theorem row_tx {n:Nat}{x:Str}(h:x.length=n):x=tx n (ch x):=by
 obtain ⟨a⟩:=x
 subst h
 unfold tx
 congr 1
 apply Array.ext
 ·simp [Str.length]
 ·intro i h1 h2
  simp [ch]
  rw [Array.getElem?_eq_getElem h1]
  rfl
theorem ch_tx {n:Nat}{c:Nat->Nat}{i:Nat}(hi:i < n):ch (tx n c) i=c i:=by
 unfold ch tx
 simp [Array.getD_eq_getD_getElem?,hi]
end L2
namespace K63
open PySem L2
open PyProof.Rows (envOfC)
abbrev s_ans:Stmt:=top 37
abbrev s_pg:Stmt:=top 36
abbrev s_gaps:Stmt:=top 35
theorem TabAt.mono {C:Addr}{H H':Hp}{t dx kp bt:Addr}{n m:Nat}{rs:List Str}(h:TabAt C H t dx kp bt n m rs) (s:Same H H'):TabAt C H' t dx kp bt n m rs:=by
 obtain ⟨i,c,bvs,e1,e2,r⟩:=h
 exact ⟨s _ _ i,c,bvs,s _ _ e1,s _ _ e2,r⟩
section
variable {P:Program}{w:World}{K:PySem.W.Frag}{mg:Str->Option Value}{base:Heap}{C fi fa ft fy fm fc:Addr}{gi ga gt gy gm gc:FuncData}
def spAns:Sp:=fun vs H Q _=>∃(x:Str) (n:Nat),vs=[.str x]/\x.length=n/\n<=12/\∀ p H',H p=none->Acc H p H' ((ansG x n).map skP)->Q (.ref p) H'
theorem sc_ans:FnScope ["pattern"] ["pattern"] (defScope s_ans):=⟨rfl,rfl,rfl,by decide +kernel,rfl,by decide +kernel,by decide +kernel⟩
theorem nd_ans:(["question", "sign"]:List Str).Nodup:=by decide +kernel
theorem ok_ans {f:Addr}{fd:FuncData}(D:Df K mg "answers" s_ans ["pattern"] f fd) (M:Gm mg):FnOk P w K mg base (CXE P w) 1 f fd ["pattern"] spAns:=by
 refine D.F.okN sc_ans (fun vs H Q E h=>?_) (fun cdv A outer s H vs Q E hr h=>?_)
 ·obtain ⟨x,n,rfl,_⟩:=h
  rfl
 ·obtain ⟨x,n,rfl,hx,n12,k⟩:=h
  refine ⟨_,pss_one (ps_ret (pe_comp (g:=gTup K 2 (gCons (gName 0) (gCons (gName 1) gNil))) (N':=["question", "sign"]) (fm:=[none,none]) rfl ⟨rfl,by decide +kernel,by decide +kernel,rfl,rfl,rfl⟩
    (pi_enum (by rfl) M.enum (pa_cons (pv 0) pa_nil))
    (fun _ _ _ _=>pg_tup rfl (pgs_cons (pg_name (i:=0) nd_ans rfl (Or.inl rfl)) (pgs_cons (pg_name (i:=1) nd_ans rfl (Or.inl rfl)) pgs_nil)))
    (fun _ _ _ _=>pif_one (pt_cmpR op_ne (pv 1) pe_str (nomark _)))
    (fun _ _ _ _=>pe_tup (pa_cons (pv 0) (pa_cons (pv 1) pa_nil))))),?_⟩
  refine ⟨_,rfl,x,rfl,fun p hp=>?_⟩
  refine blk_enum (fun i σ H2=>∃ v0 v1,σ=[v0,v1]/\Acc H p H2 ((ansG x i).map skP)) ⟨none,none,rfl,Same.new hp,[],upd_same,Tups.nil⟩ ?_ ?_
  ·rintro i T σ H2 hi hT ⟨v0,v1,rfl,a2⟩
   rw [hx] at hi
   have sT:=Same.new (o:=.tup [.int i,sg x i]) hT
   refine ⟨T,_,rfl,SqT.of upd_same,rfl,_,_,rfl,_,_,rfl,rfl,?_⟩
   refine ⟨_,rfl,rfl,_,rfl,ite2 (fun z=>?_) (fun z=>?_)⟩
   ·have z:(!decide (s1 (ch x i)=s1 45))=true:=z
    rw [dec_s1] at z
    have z:¬ ch x i=45:=by simpa using z
    refine ⟨_,rfl,_,rfl,len_le (show 2<=100 by decide),fun T2 hT2=>?_⟩
    obtain ⟨ys,e1,l1,a3⟩:=a2.put (k:=skP (i,ch x i)) hp sT hT2
    refine ⟨ys,e1,?_,_,_,rfl,?_⟩
    ·rw [l1,List.length_map]
     have:=ansG_len x i
     exact Nat.lt_of_le_of_lt (show _<=12 by omega) (by decide)
    ·have e:(ansG x (i + 1)).map skP=(ansG x i).map skP ++ [skP (i,ch x i)]:=by
      rw [ansG_succ]; unfold ansF; rw [if_neg z,List.map_append]; rfl
     rw [e]
     exact a3
   ·have z:¬ (!decide (s1 (ch x i)=s1 45))=true:=z
    rw [dec_s1] at z
    have z:ch x i=45:=by simpa using z
    refine ⟨_,_,rfl,?_⟩
    have e:(ansG x (i + 1)).map skP=(ansG x i).map skP:=by
     rw [ansG_succ]; unfold ansF; rw [if_pos z,List.append_nil]
    rw [e]
    exact a2.mono sT
  ·rintro σ H2 ⟨v0,v1,rfl,a2⟩
   rw [hx] at a2
   exact k p H2 hp a2
def spPg (C:Addr):Sp:=fun vs H Q _=>∃(t dx kp bt:Addr) (n m:Nat) (rs:List Str) (x:Str) (c:Nat),vs=[.ref t,.str x,.int c]/\TabAt C H t dx kp bt n m rs/\Pat n x/\n<=12/\∀ p H',H p=none->Acc H p H' (pgM rs c (ansG x n))->Q (.ref p) H'
abbrev Npg:List Str:=["table", "pattern", "many", "given"]
abbrev Ppg:List Str:=["table", "pattern", "many"]
theorem sc_pg:FnScope Npg Ppg (defScope s_pg):=⟨rfl,rfl,rfl,by decide +kernel,rfl,by decide +kernel,by decide +kernel⟩
abbrev Npc:List Str:=["q", "a", "r", "b", "given", "table", "many"]
theorem nd_pc:Npc.Nodup:=by decide +kernel
theorem sgn_of {n:Nat}{x:Str}(h:Pat n x) {p:Nat×Nat}(hp:p∈ansG x n):p.1 < n/\Sign p.2:=by
 obtain ⟨h1,h2,h3⟩:=ansG_mem hp
 have:=h.sgn p.1 h1
 exact ⟨h1,by unfold Sign; omega⟩
theorem ok_pg {f fn:Addr}{fd gn:FuncData}(D:Df K mg "pairs_given" s_pg Ppg f fd) (Dn:Df K mg "answers" s_ans ["pattern"] fn gn) (T:Tb K mg C fi fa ft fy fm fc gi ga gt gy gm gc) (Gc:FnOk P w K mg base (CXE P w) 3 fc gc Ptc (spTcount C)) (M:Gm mg):FnOk P w K mg base (CXE P w) 4 f fd Ppg (spPg C):=by
 refine D.F.okN sc_pg (fun vs H Q E h=>?_) (fun cdv A outer s H vs Q E hr h=>?_)
 ·obtain ⟨t,dx,kp,bt,n,m,rs,x,c,rfl,_⟩:=h
  rfl
 ·obtain ⟨t,dx,kp,bt,n,m,rs,x,c,rfl,tab,hx,n12,k⟩:=h
  refine ⟨_,pss_cons (ps_set (i:=3) sc_pg.nd rfl (Or.inr rfl) (pe_fn Dn (ok_ans Dn M) (hr.mono (by decide)) passN (pa_cons (pv 1) pa_nil)))
   (pss_one (ps_ret (pe_compN (g:=gTup K 2 (gCons (gName 0) (gCons (gName 1) gNil))) (N':=Npc) (fm:=[none,none,none,none,some 3,some 0,some 2]) rfl ⟨rfl,by decide +kernel,by decide +kernel,rfl,rfl,rfl⟩
    (pi_list (pv 3)) (fun _ _ _ _=>pg_tup rfl (pgs_cons (pg_name (i:=0) nd_pc rfl (Or.inl rfl)) (pgs_cons (pg_name (i:=1) nd_pc rfl (Or.inl rfl)) pgs_nil))) (fun _ _ _ _=>pif_nil)
    (fun _ _ _ _ _=>pb_nest (wi:=iList K (tVar 4)) (g:=gTup K 2 (gCons (gName 2) (gCons (gName 3) gNil))) rfl (fun _ _ z=>z) (pi_list (pv 4)) (pg_tup rfl (pgs_cons (pg_name (i:=2) nd_pc rfl (Or.inl rfl)) (pgs_cons (pg_name (i:=3) nd_pc rfl (Or.inl rfl)) pgs_nil)))
      (pif_one (PW.pt (pw_and (pt_cmpR op_le (pv 0) (pv 2) (nomark _)) (pw_and1 (pt_cmpR op_eq (pe_meth (pv 5) T.cl T.mc Gc hr T.bc .nil passN (pa_cons (pv 0) (pa_cons (pv 1) (pa_cons (pv 2) (pa_cons (pv 3) pa_nil))))) (pv 6) (nomark _))))))
      (pb_emit (fun _ _ z=>z) (pe_tup (pa_cons (pv 0) (pa_cons (pv 2) pa_nil)))))))),?_⟩
  refine ⟨_,rfl,x,n,rfl,hx.len,n12,fun g H1 hg a1=>?_⟩
  obtain ⟨s1',grs,eg,tg⟩:=a1
  refine ⟨_,rfl,g,rfl,⟨_,SqL.of eg⟩,fun p hp=>?_⟩
  have gl:=ansG_len x n
  have hpH:H p=none:=by
   cases z:H p with
   | none=>rfl
   | some o=>rw [s1' _ _ z] at hp; cases hp
  have lG:grs.length=(ansG x n).length:=by rw [tg.1,List.length_map]
  refine lp_list (K:=K) (a:=g) (xs:=grs.map V.ref) (fun i σ H2=>∃ v0 v1 v2 v3,σ=[v0,v1,v2,v3,some (.ref g),some (.ref t),some (.int c)]/\Acc H1 p H2 (uptoL (ansG x n) i (pgA rs c (ansG x n)))) ⟨none,none,none,none,rfl,Same.new hp,[],upd_same,Tups.nil⟩
   (fun i σ H2 _ ⟨_,_,_,_,_,a2⟩=>SqL.of (a2.same _ _ eg)) ?_ ?_
  ·rintro i y σ H2 hi ⟨v0,v1,v2,v3,rfl,a2⟩
   obtain ⟨r1,k1,rfl,ek,er⟩:=(tg.mono a2.same).item hi
   rw [List.getElem?_map] at ek
   cases z:(ansG x n)[i]? with
   | none=>rw [z] at ek; cases ek
   | some pq =>
    rw [z] at ek
    cases ek
    obtain ⟨q1,sq⟩:=sgn_of hx (List.mem_of_getElem? z)
    have i12:i < 12:=by have:=(List.getElem?_eq_some_iff.mp z).1; omega
    refine lturn_tup2 (SqT.of er) ?_
    refine ⟨_,rfl,g,rfl,⟨_,SqL.of (a2.same _ _ eg)⟩,?_⟩
    refine lp_list (K:=K) (a:=g) (xs:=grs.map V.ref) (fun j σ H3=>∃ v2 v3,σ=[some (.int pq.1),some (s1 pq.2),v2,v3,some (.ref g),some (.ref t),some (.int c)]/\Acc H1 p H3 (uptoL (ansG x n) i (pgA rs c (ansG x n)) ++ uptoL (ansG x n) j (pgB rs c pq))) ⟨_,_,rfl,by simpa [uptoL] using a2⟩
     (fun j σ H3 _ ⟨_,_,_,a3⟩=>SqL.of (a3.same _ _ eg)) ?_ ?_
    ·rintro j y σ H3 hj ⟨v2,v3,rfl,a3⟩
     obtain ⟨r2,k2,rfl,ek2,er2⟩:=(tg.mono a3.same).item hj
     rw [List.getElem?_map] at ek2
     cases z2:(ansG x n)[j]? with
     | none=>rw [z2] at ek2; cases ek2
     | some rq =>
      rw [z2] at ek2
      cases ek2
      obtain ⟨r1',sr⟩:=sgn_of hx (List.mem_of_getElem? z2)
      have j12:j < 12:=by have:=(List.getElem?_eq_some_iff.mp z2).1; omega
      have no:¬ (pq.1<=rq.1/\cntB rs pq.1 pq.2 rq.1 rq.2=c)->uptoL (ansG x n) (j + 1) (pgB rs c pq)=uptoL (ansG x n) j (pgB rs c pq):=fun y=>by
       rw [uptoL_succ z2]; unfold pgB; rw [if_neg y,List.append_nil]
      refine ⟨r2,_,rfl,SqT.of er2,rfl,_,_,rfl,_,_,rfl,rfl,?_⟩
      refine ⟨_,rfl,_,rfl,_,_,rfl,rfl,_,rfl,ite2 (fun z0=>?_) (fun z0=>?_)⟩
      ·have z0:(pq.1:Int)<=rq.1:=of_decide_eq_true z0
       have tab3:=tab.mono (s1'.trans' a3.same)
       refine ⟨_,rfl,t,dx,_,rfl,tab3.ins,rfl,_,rfl,_,rfl,_,rfl,_,rfl,t,dx,kp,bt,n,m,rs,pq.1,pq.2,rq.1,rq.2,rfl,tab3,q1,r1',sq,sr,fun H6 s6=>⟨_,rfl,rfl,_,rfl,?_⟩⟩
       refine ite2 (fun y=>?_) (fun y=>?_)
       ·have y:decide (V.int (cntB rs pq.1 pq.2 rq.1 rq.2:Nat)=V.int (c:Nat))=true:=y
        rw [dec_int] at y
        have y:cntB rs pq.1 pq.2 rq.1 rq.2=c:=by
         have:((cntB rs pq.1 pq.2 rq.1 rq.2:Nat):Int)=(c:Nat):=by simpa using y
         omega
        refine ⟨_,rfl,_,rfl,len_le (show 2<=100 by decide),fun T1 hT=>?_⟩
        obtain ⟨ys,e1,l1,a6⟩:=a3.put (k:=qk pq.1 rq.1) hp s6 hT
        refine ⟨ys,e1,?_,_,_,rfl,?_⟩
        ·rw [l1]
         refine small_k _ ?_
         have h1:=uptoL_len (l:=ansG x n) (pgA_len rs c (ansG x n)) i
         have h4:=uptoL_len (l:=ansG x n) (pgB_len rs c pq) j
         have h5:i * (ansG x n).length<=12 * 12:=Nat.mul_le_mul (by omega) (by omega)
         rw [List.length_append]
         omega
        ·have e:uptoL (ansG x n) (j + 1) (pgB rs c pq)=uptoL (ansG x n) j (pgB rs c pq) ++ [qk pq.1 rq.1]:=by
          rw [uptoL_succ z2]; unfold pgB; rw [if_pos ⟨by omega,y⟩]
         rw [e,<- List.append_assoc]
         exact a6
       ·have y:¬ decide (V.int (cntB rs pq.1 pq.2 rq.1 rq.2:Nat)=V.int (c:Nat))=true:=y
        rw [dec_int] at y
        refine ⟨_,_,rfl,?_⟩
        rw [no (fun w=>y (by rw [w.2]; exact beq_self_eq_true _))]
        exact a3.mono s6
      ·have z0:¬ decide ((pq.1:Int)<=rq.1)=true:=z0
       have z0:¬ (pq.1:Int)<=rq.1:=by simpa using z0
       refine iteF ⟨_,_,rfl,?_⟩
       rw [no (fun w=>z0 (by omega))]
       exact a3
    ·rintro σ H3 ⟨v2,v3,rfl,a3⟩
     refine ⟨_,_,_,_,rfl,?_⟩
     rw [uptoL_succ z]
     rw [List.length_map,lG] at a3
     exact a3
  ·rintro σ H2 ⟨v0,v1,v2,v3,rfl,a2⟩
   rw [List.length_map,lG] at a2
   exact k p H2 hpH (a2.back s1')
end
end K63
namespace K63
open PySem L2
open PyProof.Rows (envOfC)
abbrev s_cpat:Stmt:=top 20
abbrev s_ispat:Stmt:=top 23
section
variable {P:Program}{w:World}{K:PySem.W.Frag}{mg:Str->Option Value}{base:Heap}{C fi fa ft fy fm fc:Addr}{gi ga gt gy gm gc:FuncData}
def spGaps (C:Addr):Sp:=fun vs H Q _=>∃(t dx kp bt:Addr) (n m:Nat) (rs:List Str) (x:Str),vs=[.ref t,.str x]/\TabAt C H t dx kp bt n m rs/\Pat n x/\n<=12/\∀ p H',H p=none->Acc H p H' (pgM rs 0 (ansG x n))->Q (.ref p) H'
abbrev Pgp:List Str:=["table", "pattern"]
theorem sc_gaps:FnScope Pgp Pgp (defScope s_gaps):=⟨rfl,rfl,rfl,by decide +kernel,rfl,by decide +kernel,by decide +kernel⟩
theorem ok_gaps {f fp:Addr}{fd gp:FuncData}(D:Df K mg "gaps" s_gaps Pgp f fd) (Dp:Df K mg "pairs_given" s_pg Ppg fp gp) (Gp:FnOk P w K mg base (CXE P w) 4 fp gp Ppg (spPg C)):FnOk P w K mg base (CXE P w) 5 f fd Pgp (spGaps C):=by
 refine D.F.okN sc_gaps (fun vs H Q E h=>?_) (fun cdv A outer s H vs Q E hr h=>?_)
 ·obtain ⟨t,dx,kp,bt,n,m,rs,x,rfl,_⟩:=h
  rfl
 ·obtain ⟨t,dx,kp,bt,n,m,rs,x,rfl,tab,hx,n12,k⟩:=h
  refine ⟨_,pss_one (ps_ret (pe_fn Dp Gp hr passN (pa_cons (pv 0) (pa_cons (pv 1) (pa_cons pe_int pa_nil))))),?_⟩
  exact ⟨_,rfl,_,rfl,t,dx,kp,bt,n,m,rs,x,0,rfl,tab,hx,n12,k⟩
end
end K63
namespace L2
open PySem PySem.Spec PyProof.Rows
section
variable {X:Cx}
def rSlX:V->Option Int->Option Int->Hp->VK->Prop:=fun x lo hi H Q=>∃ z,x=.str z/\z.length<=sizeLine/\Q (.str (Txt.slice z lo hi)) H
theorem sl_strX:SlR X rSlX:=by
 intro pins s σ H x v vl vu lo hi sl Q I rx hs pl pu h
 obtain ⟨z,rfl,hz,q⟩:=h
 obtain ⟨t,rfl⟩:=rx
 have fin:∀(t' k:Nat),EP X pins σ Q (.str (Txt.slice z lo hi) t') { s with toks:=k }:=fun t' k=>⟨.str _,H,I.tok k,⟨t',rfl⟩,q⟩
 refine ⟨"str",_,slot_str_getitem.lookup,typeIs_str _ _ _,?_⟩
 cases pl with
 | none =>
  cases pu with
  | none=>exact wpAny_getItem_str_slice (l:=none) (u:=none) (st:=none) hs rfl (post_val_or_str ⟨Nat.le_trans (Txt.slice_le z _ _) hz,fun t' k=>fin _ _⟩)
  | int j uj=>exact wpAny_getItem_str_slice (l:=none) (u:=some (j,uj)) (st:=none) hs rfl (post_val_or_str ⟨Nat.le_trans (Txt.slice_le z _ _) hz,fun t' k=>fin _ _⟩)
 | int i ui =>
  cases pu with
  | none=>exact wpAny_getItem_str_slice (l:=some (i,ui)) (u:=none) (st:=none) hs rfl (post_val_or_str ⟨Nat.le_trans (Txt.slice_le z _ _) hz,fun t' k=>fin _ _⟩)
  | int j uj=>exact wpAny_getItem_str_slice (l:=some (i,ui)) (u:=some (j,uj)) (st:=none) hs rfl (post_val_or_str ⟨Nat.le_trans (Txt.slice_le z _ _) hz,fun t' k=>fin _ _⟩)
end
theorem slice_run (x:Str) (l u:Option Int) (a b:Nat) (hb:b<=x.length) (e:Builtin.Str.strSliceIndices l u 1 x.length=sliceRange a b 1):(Txt.slice x l u).cps.toList=(x.cps.toList.drop a).take (b - a):=by
 unfold Txt.slice
 rw [e,sliceRange_one]
 by_cases h:((1:Int) == 1 && ((List.range (b - a)).map (a + ·)).length == x.length)=true
 ·rw [if_pos h]
  rw [List.length_map,List.length_range] at h
  have h:b - a=x.length:=by simpa using h
  have ha:a=0∨x.length=0:=by omega
  have hs:x.cps.toList.length=x.length:=by simp [Str.length]
  rcases ha with ha | ha
  ·subst ha
   rw [List.drop_zero,List.take_of_length_le (by omega)]
  ·have:x.cps.toList=[]:=List.length_eq_zero_iff.mp (by omega)
   rw [this]; simp
 ·rw [if_neg h]
  simp only [pick_run]
theorem slice_lo (x:Str) (q:Nat) (hq:q<=x.length):(Txt.slice x none (some q)).cps.toList=x.cps.toList.take q:=by
 rw [slice_run x none (some q) 0 q hq]
 ·simp
 ·unfold Builtin.Str.strSliceIndices
  simp only [show (1:Int) > 0 by decide,if_true]
  congr 1
  rw [if_neg (by omega)]
  omega
theorem slice_hi (x:Str) (q:Nat) (hq:q<=x.length):(Txt.slice x (some q) none).cps.toList=x.cps.toList.drop q:=by
 have hs:x.cps.toList.length=x.length:=by simp [Str.length]
 rw [slice_run x (some q) none q x.length (Nat.le_refl _)]
 ·exact List.take_of_length_le (by rw [List.length_drop]; omega)
 ·unfold Builtin.Str.strSliceIndices
  simp only [show (1:Int) > 0 by decide,if_true]
  congr 1
  rw [if_neg (by omega)]
  omega
def setC (x:Str) (q a:Nat) (i:Nat):Nat:=if i=q then a else ch x i
theorem toList_tx (n:Nat) (c:Nat->Nat):(tx n c).cps.toList=(List.range n).map c:=by unfold tx; simp
theorem with_tx {n q a:Nat}{x:Str}(hx:x.length=n) (hq:q < n):Txt.slice x none (some (q:Int)) ++ (⟨#[a]⟩:Str) ++ Txt.slice x (some ((q:Int) + 1)) none=tx n (setC x q a):=by
 have h1:=slice_lo x q (by omega)
 have h2:=slice_hi x (q + 1) (by omega)
 have eq1:(((q + 1:Nat):Int))=(q:Int) + 1:=by omega
 rw [eq1] at h2
 have hxl:x.cps.toList=(List.range n).map (ch x):=by
  have:=row_tx hx
  rw [this,toList_tx]
  refine List.map_congr_left fun i hi=>?_
  rw [ch_tx (List.mem_range.mp hi)]
 have key:(Txt.slice x none (some (q:Int)) ++ (⟨#[a]⟩:Str) ++ Txt.slice x (some ((q:Int) + 1)) none).cps.toList=(tx n (setC x q a)).cps.toList:=by
  show ((Txt.slice x none (some (q:Int))).cps ++ #[a] ++ (Txt.slice x (some ((q:Int) + 1)) none).cps).toList=_
  rw [Array.toList_append,Array.toList_append,h1,h2,hxl,toList_tx]
  apply List.ext_getElem?
  intro i
  rw [<- List.map_take,<- List.map_drop]
  by_cases hi:i < q
  ·rw [List.append_assoc,List.getElem?_append_left (by rw [List.length_map,List.length_take,List.length_range]; omega),List.getElem?_map,List.getElem?_map,List.getElem?_take,if_pos hi,List.getElem?_range (by omega)]
   show some (ch x i)=some (setC x q a i)
   unfold setC
   rw [if_neg (by omega)]
  ·by_cases he:i=q
   ·subst he
    rw [List.getElem?_append_left (by rw [List.length_append,List.length_map,List.length_take,List.length_range]; show i < min i n + 1; omega),List.getElem?_append_right (by rw [List.length_map,List.length_take,List.length_range]; omega),List.length_map,List.length_take,List.length_range,List.getElem?_map,List.getElem?_range hq]
    have:i - min i n=0:=by omega
    rw [this]
    show some a=some (setC x i a i)
    unfold setC
    rw [if_pos rfl]
   ·have l1:(List.map (ch x) (List.take q (List.range n)) ++ #[a].toList).length=q + 1:=by
     rw [List.length_append,List.length_map,List.length_take,List.length_range]
     show min q n + 1=q + 1
     omega
    rw [List.getElem?_append_right (by rw [l1]; omega),l1,List.getElem?_map,List.getElem?_drop,List.getElem?_map]
    have e:q + 1 + (i - (q + 1))=i:=by omega
    rw [e]
    by_cases hn:i < n
    ·rw [List.getElem?_range hn]
     show some (ch x i)=some (setC x q a i)
     unfold setC
     rw [if_neg he]
    ·rw [List.getElem?_eq_none (by rw [List.length_range]; omega)]
     rfl
 have:∀ s t:Str,s.cps.toList=t.cps.toList->s=t:=fun s t h=>by
  obtain ⟨s⟩:=s
  obtain ⟨t⟩:=t
  congr 1
  exact Array.toList_inj.mp h
 exact this _ _ key
def Stands (rs:List Str) (n:Nat) (x:Str):Prop:=∀ q r,q < n->r < n->¬ ch x q=45->¬ ch x r=45->0 < cntB rs q (ch x q) r (ch x r)
def Fits (rs:List Str) (n:Nat) (x:Str) (q a:Nat):Prop:=0 < cntB rs q a q a/\∀ r,r < n->¬ ch x r=45->0 < cntB rs q a r (ch x r)
theorem cnt_pos {rs:List Str}{q a r b:Nat}:0 < cntB rs q a r b↔∃ x∈rs,ch x q=a/\ch x r=b:=by
 unfold cntB
 rw [List.countP_pos_iff]
 exact ⟨fun ⟨x,h,e⟩=>⟨x,h,of_decide_eq_true e⟩,fun ⟨x,h,e⟩=>⟨x,h,decide_eq_true e⟩⟩
theorem fit_one {rs:List Str}{n:Nat}{x:Str}{q:Nat}(hS:Stands rs n x) (hrs:∀ y∈rs,Row n y) (h0:rs≠[]) (hq:q < n) (hn:¬ Fits rs n x q 110):Fits rs n x q 121:=by
 have bin:∀ y∈rs,ch y q=121∨ch y q=110:=fun y hy=>(hrs y hy).bin q hq
 by_cases h1:0 < cntB rs q 110 q 110
 ·have:∃ r,r < n/\¬ ch x r=45/\¬ 0 < cntB rs q 110 r (ch x r):=by
   apply Classical.byContradiction
   intro hc
   refine hn ⟨h1,fun r hr hx=>?_⟩
   apply Classical.byContradiction
   intro z
   exact hc ⟨r,hr,hx,z⟩
  obtain ⟨r,hr,hxr,zr⟩:=this
  have all:∀ y∈rs,ch y r=ch x r->ch y q=121:=fun y hy e=>by
   rcases bin y hy with b | b
   ·exact b
   ·exact absurd (cnt_pos.mpr ⟨y,hy,b,e⟩) zr
  refine ⟨?_,fun r' hr' hx'=>?_⟩
  ·obtain ⟨y,hy,e1,_⟩:=cnt_pos.mp (hS r r hr hr hxr hxr)
   have:=all y hy e1
   exact cnt_pos.mpr ⟨y,hy,this,this⟩
  ·obtain ⟨y,hy,e1,e2⟩:=cnt_pos.mp (hS r r' hr hr' hxr hx')
   exact cnt_pos.mpr ⟨y,hy,all y hy e1,e2⟩
 ·have all:∀ y∈rs,ch y q=121:=fun y hy=>by
   rcases bin y hy with b | b
   ·exact b
   ·exact absurd (cnt_pos.mpr ⟨y,hy,b,b⟩) h1
  refine ⟨?_,fun r' hr' hx'=>?_⟩
  ·obtain ⟨y,hy⟩:=List.exists_mem_of_ne_nil rs h0
   exact cnt_pos.mpr ⟨y,hy,all y hy,all y hy⟩
  ·obtain ⟨y,hy,e1,e2⟩:=cnt_pos.mp (hS r' r' hr' hr' hx' hx')
   exact cnt_pos.mpr ⟨y,hy,all y hy,e1⟩
theorem fit_set {rs:List Str}{n:Nat}{x:Str}{q a:Nat}(hS:Stands rs n x) (hq:q < n) (hf:Fits rs n x q a):Stands rs n (tx n (setC x q a)):=by
 intro i j hi hj
 rw [ch_tx hi,ch_tx hj]
 unfold setC
 by_cases e1:i=q
 ·rw [if_pos e1]
  by_cases e2:j=q
  ·rw [if_pos e2,e1,e2]; exact fun _ _=>hf.1
  ·rw [if_neg e2,e1]; exact fun _ h=>hf.2 j hj h
 ·rw [if_neg e1]
  by_cases e2:j=q
  ·rw [if_pos e2,e2]
   intro h _
   rw [cntB_comm]
   exact hf.2 i hi h
  ·rw [if_neg e2]; exact fun h1 h2=>hS i j hi hj h1 h2
theorem stands_of {rs:List Str}{n:Nat}{x:Str}(h:pgM rs 0 (ansG x n)=[]):Stands rs n x:=by
 have go:∀ q r,q < n->r < n->q<=r->¬ ch x q=45->¬ ch x r=45->0 < cntB rs q (ch x q) r (ch x r):=fun q r hq hr hle nq nr=>by
  cases z:cntB rs q (ch x q) r (ch x r) with
  | succ _=>omega
  | zero =>
   exfalso
   have:qk q r∈pgM rs 0 (ansG x n):=by
    refine List.mem_flatMap.mpr ⟨(q,ch x q),?_,List.mem_flatMap.mpr ⟨(r,ch x r),?_,?_⟩⟩
    ·rw [List.take_length]; exact mem_ansG hq nq
    ·rw [List.take_length]; exact mem_ansG hr nr
    ·unfold pgB
     rw [if_pos ⟨hle,z⟩]
     exact List.mem_singleton.mpr rfl
   rw [h] at this
   cases this
 intro q r hq hr nq nr
 by_cases hle:q<=r
 ·exact go q r hq hr hle nq nr
 ·rw [cntB_comm]; exact go r q hr hq (by omega) nr nq
theorem gaps_nil {rs:List Str}{n:Nat}{x:Str}(h:Stands rs n x):pgM rs 0 (ansG x n)=[]:=by
 refine List.eq_nil_iff_forall_not_mem.mpr fun k hk=>?_
 obtain ⟨p,hp,hk⟩:=List.mem_flatMap.mp hk
 obtain ⟨p',hp',hk⟩:=List.mem_flatMap.mp hk
 obtain ⟨h1,h2,h5⟩:=ansG_mem (List.mem_of_mem_take hp)
 obtain ⟨h3,h4,h6⟩:=ansG_mem (List.mem_of_mem_take hp')
 have:=h p.1 p'.1 h1 h3 (by rw [<- h2]; exact h5) (by rw [<- h4]; exact h6)
 unfold pgB at hk
 rw [if_neg (fun z=>by rw [h2,h4] at z; omega)] at hk
 cases hk
end L2
namespace K63
open PySem L2
open PyProof.Rows (envOfC)
abbrev s_with:Stmt:=top 26
abbrev s_cfilled:Stmt:=top 29
abbrev s_open:Stmt:=top 38
abbrev s_fits:Stmt:=top 39
abbrev s_fill:Stmt:=top 40
def opnF (x:Str) (q:Nat):List Nat:=if ch x q=45 then [q] else []
def opnL (x:Str) (n:Nat):List Nat:=(List.range n).flatMap (opnF x)
theorem opn_succ (x:Str) (n:Nat):opnL x (n + 1)=opnL x n ++ opnF x n:=by unfold opnL; rw [List.range_succ,List.flatMap_append]; simp
theorem opn_len (x:Str):∀ n,(opnL x n).length<=n
 | 0=>by simp [opnL]
 | n + 1=>by
  rw [opn_succ,List.length_append]
  have:(opnF x n).length<=1:=by unfold opnF; split <;> simp
  have:=opn_len x n
  omega
theorem opn_mem {x:Str}{n q:Nat}:q∈opnL x n↔q < n/\ch x q=45:=by
 constructor
 ·intro h
  obtain ⟨i,hi,h⟩:=List.mem_flatMap.mp h
  unfold opnF at h
  split at h
  ·rename_i z
   rw [List.mem_singleton.mp h]
   exact ⟨List.mem_range.mp hi,z⟩
  ·cases h
 ·rintro ⟨h1,h2⟩
  refine List.mem_flatMap.mpr ⟨q,List.mem_range.mpr h1,?_⟩
  unfold opnF
  rw [if_pos h2]
  exact List.mem_singleton.mpr rfl
def vN (q:Nat):V:=.int (q:Nat)
section
variable {P:Program}{w:World}{K:PySem.W.Frag}{mg:Str->Option Value}{base:Heap}{C fi fa ft fy fm fc:Addr}{gi ga gt gy gm gc:FuncData}
def spOpen:Sp:=fun vs H Q _=>∃(x:Str) (n:Nat),vs=[.str x]/\x.length=n/\n<=12/\∀ p H',H p=none->Same H H'->H' p=some (.lst ((opnL x n).map vN))->Q (.ref p) H'
theorem sc_open:FnScope ["pattern"] ["pattern"] (defScope s_open):=⟨rfl,rfl,rfl,by decide +kernel,rfl,by decide +kernel,by decide +kernel⟩
theorem ok_open {f:Addr}{fd:FuncData}(D:Df K mg "open_places" s_open ["pattern"] f fd) (M:Gm mg):FnOk P w K mg base (CXE P w) 1 f fd ["pattern"] spOpen:=by
 refine D.F.okN sc_open (fun vs H Q E h=>?_) (fun cdv A outer s H vs Q E hr h=>?_)
 ·obtain ⟨x,n,rfl,_⟩:=h
  rfl
 ·obtain ⟨x,n,rfl,hx,n12,k⟩:=h
  refine ⟨_,pss_one (ps_ret (pe_comp (g:=gTup K 2 (gCons (gName 0) (gCons (gName 1) gNil))) (N':=["question", "sign"]) (fm:=[none,none]) rfl ⟨rfl,by decide +kernel,by decide +kernel,rfl,rfl,rfl⟩
    (pi_enum (by rfl) M.enum (pa_cons (pv 0) pa_nil))
    (fun _ _ _ _=>pg_tup rfl (pgs_cons (pg_name (i:=0) nd_ans rfl (Or.inl rfl)) (pgs_cons (pg_name (i:=1) nd_ans rfl (Or.inl rfl)) pgs_nil)))
    (fun _ _ _ _=>pif_one (pt_cmpR op_eq (pv 1) pe_str (nomark _)))
    (fun _ _ _ _=>pv 0))),?_⟩
  refine ⟨_,rfl,x,rfl,fun p hp=>?_⟩
  refine blk_enum (fun i σ H2=>∃ v0 v1,σ=[v0,v1]/\Same H H2/\H2 p=some (.lst ((opnL x i).map vN))) ⟨none,none,rfl,Same.new hp,upd_same⟩ ?_ ?_
  ·rintro i T σ H2 hi hT ⟨v0,v1,rfl,s2,e2⟩
   rw [hx] at hi
   have sT:=Same.new (o:=.tup [.int i,sg x i]) hT
   refine ⟨T,_,rfl,SqT.of upd_same,rfl,_,_,rfl,_,_,rfl,rfl,?_⟩
   refine ⟨_,rfl,rfl,_,rfl,ite2 (fun z=>?_) (fun z=>?_)⟩
   ·have z:decide (s1 (ch x i)=s1 45)=true:=z
    rw [dec_s1] at z
    have z:ch x i=45:=by simpa using z
    refine ⟨_,rfl,_,sT _ _ e2,?_,_,_,rfl,Same.grow hp (s2.trans' sT),?_⟩
    ·rw [List.length_map]
     have:=opn_len x i
     exact Nat.lt_of_le_of_lt (show _<=12 by omega) (by decide)
    ·rw [upd_same,opn_succ,List.map_append]
     unfold opnF
     rw [if_pos z]
     rfl
   ·have z:¬ decide (s1 (ch x i)=s1 45)=true:=z
    rw [dec_s1] at z
    have z:¬ ch x i=45:=by simpa using z
    refine ⟨_,_,rfl,s2.trans' sT,?_⟩
    rw [opn_succ]
    unfold opnF
    rw [if_neg z,List.append_nil]
    exact sT _ _ e2
  ·rintro σ H2 ⟨v0,v1,rfl,s2,e2⟩
   rw [hx] at e2
   exact k p H2 hp s2 e2
def spFits (C:Addr):Sp:=fun vs H Q _=>∃(t dx kp bt:Addr) (n m:Nat) (rs:List Str) (x:Str) (q a:Nat),vs=[.ref t,.str x,.int q,s1 a]/\TabAt C H t dx kp bt n m rs/\Pat n x/\n<=12/\q < n/\Sign a/\∀(b:Bool) H',(b=true↔Fits rs n x q a)->Same H H'->Q (.bl b) H'
abbrev Nft:List Str:=["table", "pattern", "question", "sign", "given"]
abbrev Pft:List Str:=["table", "pattern", "question", "sign"]
theorem sc_fits:FnScope Nft Pft (defScope s_fits):=⟨rfl,rfl,rfl,by decide +kernel,rfl,by decide +kernel,by decide +kernel⟩
abbrev Nfc:List Str:=["r", "b", "table", "question", "sign"]
theorem nd_fc:Nfc.Nodup:=by decide +kernel
def fitB (rs:List Str) (q a:Nat) (p:Nat×Nat):Bool:=decide (0 < cntB rs q a p.1 p.2)
theorem fit_all (rs:List Str) (n:Nat) (x:Str) (q a:Nat) (hq:q < n):((ansG x n ++ [(q,a)]).map (fitB rs q a)).all id=true↔Fits rs n x q a:=by
 rw [List.all_eq_true]
 constructor
 ·intro h
  refine ⟨of_decide_eq_true (h _ (List.mem_map.mpr ⟨(q,a),List.mem_append_right _ (List.mem_singleton.mpr rfl),rfl⟩)),fun r hr hx=>?_⟩
  exact of_decide_eq_true (h _ (List.mem_map.mpr ⟨(r,ch x r),List.mem_append_left _ (mem_ansG hr hx),rfl⟩))
 ·rintro ⟨h1,h2⟩ b hb
  obtain ⟨p,hp,rfl⟩:=List.mem_map.mp hb
  refine decide_eq_true ?_
  rcases List.mem_append.mp hp with hp | hp
  ·obtain ⟨e1,e2,e3⟩:=ansG_mem hp
   rw [e2]
   exact h2 p.1 e1 (by rw [<- e2]; exact e3)
  ·rw [List.mem_singleton.mp hp]; exact h1
theorem ok_fits {f fn:Addr}{fd gn:FuncData}(D:Df K mg "fits" s_fits Pft f fd) (Dn:Df K mg "answers" s_ans ["pattern"] fn gn) (T:Tb K mg C fi fa ft fy fm fc gi ga gt gy gm gc) (Gc:FnOk P w K mg base (CXE P w) 3 fc gc Ptc (spTcount C)) (B:Bt mg) (M:Gm mg):FnOk P w K mg base (CXE P w) 4 f fd Pft (spFits C):=by
 refine D.F.okN sc_fits (fun vs H Q E h=>?_) (fun cdv A outer s H vs Q E hr h=>?_)
 ·obtain ⟨t,dx,kp,bt,n,m,rs,x,q,a,rfl,_⟩:=h
  rfl
 ·obtain ⟨t,dx,kp,bt,n,m,rs,x,q,a,rfl,tab,hx,n12,hq,ha,k⟩:=h
  refine ⟨_,pss_cons (ps_set (i:=4) sc_fits.nd rfl (Or.inl rfl) (pe_op op_cat (pe_fn Dn (ok_ans Dn M) (hr.mono (by decide)) passN (pa_cons (pv 1) pa_nil)) (pe_lst (pa_cons (pe_tup (pa_cons (pv 2) (pa_cons (pv 3) pa_nil))) pa_nil))))
   (pss_one (ps_ret (pe_callB (call_all rfl) (by rfl) B.all (by rfl) (pa_cons (pe_comp (g:=gTup K 2 (gCons (gName 0) (gCons (gName 1) gNil))) (N':=Nfc) (fm:=[none,none,some 0,some 2,some 3]) rfl ⟨rfl,by decide +kernel,by decide +kernel,rfl,rfl,rfl⟩
    (pi_list (pv 4)) (fun _ _ _ _=>pg_tup rfl (pgs_cons (pg_name (i:=0) nd_fc rfl (Or.inl rfl)) (pgs_cons (pg_name (i:=1) nd_fc rfl (Or.inl rfl)) pgs_nil))) (fun _ _ _ _=>pif_nil)
    (fun _ _ _ _=>pe_cmpR op_gt (pe_meth (pv 2) T.cl T.mc Gc hr T.bc .nil passN (pa_cons (pv 3) (pa_cons (pv 4) (pa_cons (pv 0) (pa_cons (pv 1) pa_nil))))) pe_int (nomark _))) pa_nil)))),?_⟩
  refine ⟨_,rfl,x,n,rfl,hx.len,n12,fun g H1 hg a1=>?_⟩
  obtain ⟨s1',grs,eg,tg⟩:=a1
  refine ⟨_,rfl,_,rfl,len_le (show 2<=100 by decide),fun T1 hT1=>⟨len_le (show 1<=100 by decide),fun l1 hl1=>?_⟩⟩
  have sT:=Same.new (o:=.tup [.int q,s1 a]) hT1
  have sl:=Same.new (o:=.lst [.ref T1]) hl1
  have s3:=sT.trans' sl
  have gl:=ansG_len x n
  refine ⟨g,l1,_,_,rfl,rfl,s3 _ _ eg,upd_same,?_,fun g2 hg2=>?_⟩
  ·rw [List.length_map,tg.1,List.length_map]
   exact len_le (show (ansG x n).length + 1<=100 by omega)
  have s4:=Same.new (o:=.lst (grs.map V.ref ++ [.ref T1])) hg2
  have s14:=s3.trans' s4
  have tk:Tups (upd (upd (upd H1 T1 (.tup [.int q,s1 a])) l1 (.lst [.ref T1])) g2 (.lst (grs.map V.ref ++ [.ref T1]))) (grs ++ [T1]) ((ansG x n ++ [(q,a)]).map skP):=by
   rw [List.map_append]
   exact (tg.mono s14).append (.one (s4 _ _ (sl _ _ upd_same)))
  have eg2:upd (upd (upd H1 T1 (.tup [.int q,s1 a])) l1 (.lst [.ref T1])) g2 (.lst (grs.map V.ref ++ [.ref T1])) g2=some (.lst ((grs ++ [T1]).map V.ref)):=by
   rw [upd_same,List.map_append]; rfl
  refine ⟨_,rfl,g2,rfl,⟨_,SqL.of eg2⟩,fun p hp=>?_⟩
  have lG:(grs ++ [T1]).length=(ansG x n ++ [(q,a)]).length:=by rw [tk.1,List.length_map]
  have pats:∀ pr∈ansG x n ++ [(q,a)],pr.1 < n/\Sign pr.2:=fun pr h=>by
   rcases List.mem_append.mp h with h | h
   ·exact sgn_of hx h
   ·rw [List.mem_singleton.mp h]; exact ⟨hq,ha⟩
  refine blk_list (K:=K) (a:=g2) (xs:=(grs ++ [T1]).map V.ref) (fun i σ H2=>∃ v0 v1,σ=[v0,v1,some (.ref t),some (.int q),some (s1 a)]/\Same (upd (upd (upd H1 T1 (.tup [.int q,s1 a])) l1 (.lst [.ref T1])) g2 (.lst (grs.map V.ref ++ [.ref T1]))) H2/\H2 p=some (.lst ((((ansG x n ++ [(q,a)]).take i).map (fitB rs q a)).map V.bl)))
   ⟨none,none,rfl,Same.new hp,upd_same⟩ (fun i σ H2 _ ⟨_,_,_,s2,_⟩=>SqL.of (s2 _ _ eg2)) ?_ ?_
  ·rintro i y σ H2 hi ⟨v0,v1,rfl,s2,e2⟩
   obtain ⟨r1,k1,rfl,ek,er⟩:=(tk.mono s2).item hi
   rw [List.getElem?_map] at ek
   cases z:(ansG x n ++ [(q,a)])[i]? with
   | none=>rw [z] at ek; cases ek
   | some pr =>
    rw [z] at ek
    cases ek
    obtain ⟨p1,p2⟩:=pats pr (List.mem_of_getElem? z)
    have tab2:=tab.mono (s1'.trans' (s14.trans' s2))
    refine turn_tup2 er ?_
    refine ⟨_,rfl,t,dx,_,rfl,tab2.ins,rfl,_,rfl,_,rfl,_,rfl,_,rfl,t,dx,kp,bt,n,m,rs,q,a,pr.1,pr.2,rfl,tab2,hq,p1,ha,p2,fun H6 s6=>?_⟩
    refine ⟨_,_,rfl,rfl,_,s6 _ _ e2,?_,_,_,rfl,Same.grow hp (s2.trans' s6),?_⟩
    ·rw [List.length_map,List.length_map,List.length_take,List.length_append]
     exact Nat.lt_of_le_of_lt (show _<=13 by show min i ((ansG x n).length + 1)<=13; omega) (by decide)
    ·rw [upd_same,List.take_add_one,z,List.map_append,List.map_append]
     have e:fitB rs q a pr=decide ((0:Int) < (cntB rs q a pr.1 pr.2:Nat)):=by
      unfold fitB
      exact decide_eq_decide.mpr ⟨fun h=>by omega,fun h=>by omega⟩
     show some (HO.lst (_ ++ [V.bl (decide ((0:Int) < (cntB rs q a pr.1 pr.2:Nat)))]))=some (HO.lst (_ ++ [V.bl (fitB rs q a pr)]))
     rw [e]
  ·rintro σ H2 ⟨v0,v1,rfl,s2,e2⟩
   rw [List.length_map,lG,List.take_length] at e2
   exact ⟨p,_,rfl,SqL.of e2,k _ H2 (fit_all rs n x q a hq) (s1'.trans' (s14.trans' s2))⟩
def spWith:Sp:=fun vs H Q _=>∃(x:Str) (n q a:Nat),vs=[.str x,.int q,s1 a]/\x.length=n/\q < n/\n<=100/\Q (.str (tx n (setC x q a))) H
abbrev Pwi:List Str:=["pattern", "question", "sign"]
theorem sc_with:FnScope Pwi Pwi (defScope s_with):=⟨rfl,rfl,rfl,by decide +kernel,rfl,by decide +kernel,by decide +kernel⟩
theorem ok_with {f:Addr}{fd:FuncData}(D:Df K mg "with_answer" s_with Pwi f fd):FnOk P w K mg base (CXE P w) 1 f fd Pwi spWith:=by
 refine D.F.okN sc_with (fun vs H Q E h=>?_) (fun cdv A outer s H vs Q E hr h=>?_)
 ·obtain ⟨x,n,q,a,rfl,_⟩:=h
  rfl
 ·obtain ⟨x,n,q,a,rfl,hx,hq,hn,k⟩:=h
  refine ⟨_,pss_one (ps_ret (pe_op op_add_str (pe_op op_add_str (pe_slice sl_strX (pv 0) po_none (po_some (pv 1))) (pv 2)) (pe_slice sl_strX (pv 0) (po_some (pe_op op_add (pv 1) pe_int)) po_none))),?_⟩
  have sz:x.length<=sizeLine:=by rw [hx]; exact len_le hn
  have l1:=Txt.slice_le x none (some (q:Int))
  have l2:=Txt.slice_le x (some ((q:Int) + 1)) none
  refine ⟨_,rfl,_,rfl,_,rfl,_,rfl,sz,_,rfl,_,_,rfl,rfl,?_,_,rfl,_,rfl,_,_,rfl,rfl,_,rfl,_,rfl,sz,_,_,rfl,rfl,?_,?_⟩
  ·show (Txt.slice x none (some (q:Int))).length + 1<=sizeLine
   rw [sizeLine_eq]; omega
  ·have e:(Txt.slice x none (some (q:Int)) ++ (⟨#[a]⟩:Str)).length=(Txt.slice x none (some (q:Int))).length + 1:=by
    show ((Txt.slice x none (some (q:Int))).cps ++ #[a]).size=_
    rw [Array.size_append]; rfl
   show (Txt.slice x none (some (q:Int)) ++ (⟨#[a]⟩:Str)).length + (Txt.slice x (some ((q:Int) + 1)) none).length<=sizeLine
   rw [e,sizeLine_eq]; omega
  ·have:=with_tx (a:=a) hx hq
   rw [<- this] at k
   exact k
end
end K63
namespace K63
open PySem L2
open PyProof.Rows (envOfC)
section
variable {P:Program}{w:World}{K:PySem.W.Frag}{mg:Str->Option Value}{base:Heap}{C fi fa ft fy fm fc:Addr}{gi ga gt gy gm gc:FuncData}
def spFill (C:Addr):Sp:=fun vs H Q _=>∃(t dx kp bt:Addr) (n m:Nat) (rs:List Str) (x:Str),vs=[.ref t,.str x]/\TabAt C H t dx kp bt n m rs/\Pat n x/\n<=12/\Stands rs n x/\rs≠[]/\(∀ y∈rs,Row n y)/\∀ z H',Row n z->Borne rs n z->(∀ i,i < n->¬ ch x i=45->ch z i=ch x i)->Same H H'->Q (.str z) H'
abbrev Nfi:List Str:=["table", "pattern", "told", "question", "sign"]
theorem sc_fill:FnScope Nfi Pgp (defScope s_fill):=⟨rfl,rfl,rfl,by decide +kernel,rfl,by decide +kernel,by decide +kernel⟩
def tSg (K:PySem.W.Frag) (C:Addr):TS:=fun D σ H=>∃(t dx kp bt:Addr) (n m:Nat) (rs:List Str) (x z:Str) (q:Nat) (v4:Option V),σ=[some (.ref t),some (.str x),some (.str z),some (.int q),v4]/\TabAt C H t dx kp bt n m rs/\Pat n z/\n<=12/\Stands rs n z/\rs≠[]/\(∀ y∈rs,Row n y)/\q < n /\
 ∀ a H',Sign a->Fits rs n z q a->Same H H'->D.nx [some (.ref t),some (.str x),some (.str z),some (.int q),some (s1 a)] H'
abbrev b_fill (j:Nat):Stmt:=(defBody s_fill).getD j (.Pass ⟨0,0,0,0⟩)
def forB:Stmt->List Stmt
 | .For _ _ b _ _=>b
 | _=>[]
abbrev c_fill (j:Nat):Stmt:=(forB (b_fill 1)).getD j (.Pass ⟨0,0,0,0⟩)
theorem fill_sg {f ff:Addr}{gf:FuncData}{cdv:Value}{A:Around}{outer:List Env}{s:Shared}{H0:Hp}{E0':XK}(Df':Df K mg "fits" s_fits Pft ff gf) (Gf:FnOk P w K mg base (CXE P w) 4 ff gf Pft (spFits C)) (hr:Room 4 (A.deeper (envOfC "fill" (defScope s_fill) s.heap.objs.size f cdv))) :
  PS (cxOf (CXE P w) P w K mg base Nfi "fill" (defScope s_fill) f cdv A outer s H0 E0').nox (c_fill 0) (tSg K C):=by
 refine ps_weak (ps_set (i:=4) sc_fill.nd rfl (Or.inl rfl) (pe_ifExp (pt_val (pe_fn Df' Gf hr passN (pa_cons (pv 0) (pa_cons (pv 2) (pa_cons (pv 3) (pa_cons pe_str pa_nil)))))) pe_str pe_str)) ?_
 rintro D σ H ⟨t,dx,kp,bt,n,m,rs,x,z,q,v4,rfl,tab,hz,n12,hS,h0,hrs,hq,k⟩
 refine ⟨_,rfl,_,rfl,_,rfl,t,dx,kp,bt,n,m,rs,z,q,110,rfl,tab,hz,n12,hq,.inr rfl,fun b H' hb s'=>⟨_,rfl,?_⟩⟩
 cases b with
 | true=>exact iteT (k 110 H' (.inr rfl) (hb.mp rfl) s')
 | false=>exact iteF (k 121 H' (.inl rfl) (fit_one hS hrs h0 hq (fun w=>by have:=hb.mpr w; cases this)) s')
theorem ok_fill {f fo ff fw:Addr}{fd go gf gw:FuncData}(D:Df K mg "fill" s_fill Pgp f fd) (Do:Df K mg "open_places" s_open ["pattern"] fo go) (Df':Df K mg "fits" s_fits Pft ff gf) (Gf:FnOk P w K mg base (CXE P w) 4 ff gf Pft (spFits C)) (Dw:Df K mg "with_answer" s_with Pwi fw gw) (M:Gm mg):FnOk P w K mg base (CXE P w) 5 f fd Pgp (spFill C):=by
 refine D.F.okN sc_fill (fun vs H Q E h=>?_) (fun cdv A outer s H vs Q E hr h=>?_)
 ·obtain ⟨t,dx,kp,bt,n,m,rs,x,rfl,_⟩:=h
  rfl
 ·obtain ⟨t,dx,kp,bt,n,m,rs,x,rfl,tab,hx,n12,hS,h0,hrs,k⟩:=h
  refine ⟨_,pss_cons (ps_set (i:=2) sc_fill.nd rfl (Or.inl rfl) (pv 1))
   (pss_cons (ps_for PassesOwn.never rfl (pi_list (pe_fn Do (ok_open Do M) (hr.mono (by decide)) passN (pa_cons (pv 1) pa_nil))) (pg_name (i:=3) sc_fill.nd rfl (Or.inl rfl))
    (pss_cons (fill_sg Df' Gf hr) (pss_one (ps_set (i:=2) sc_fill.nd rfl (Or.inl rfl) (pe_fn Dw (ok_with Dw) (hr.mono (by decide)) passN (pa_cons (pv 2) (pa_cons (pv 3) (pa_cons (pv 4) pa_nil))))))))
   (pss_one (ps_ret (pv 2)))),?_⟩
  refine ⟨_,rfl,_,rfl,x,n,rfl,hx.len,n12,fun p H1 hp s1' e1=>⟨p,rfl,⟨_,SqL.of e1⟩,?_⟩⟩
  refine for_list (K:=K) (a:=p) (xs:=(opnL x n).map vN) (fun i σ H2=>∃ v3 v4 z,σ=[some (.ref t),some (.str x),some (.str z),v3,v4]/\Same H1 H2/\Pat n z/\Stands rs n z/\(∀ j,j < n->¬ ch x j=45->ch z j=ch x j)/\(∀ j∈(opnL x n).take i,¬ ch z j=45))
   ⟨none,none,x,rfl,Same.refl _,hx,hS,fun _ _ _=>rfl,fun j hj=>by simp at hj⟩ (fun i σ H2 _ ⟨_,_,_,_,s2,_⟩=>SqL.of (s2 _ _ e1)) ?_ ?_
  ·rintro i y σ H2 hi ⟨v3,v4,z,rfl,s2,hz,hSz,agr,fl⟩
   rw [List.getElem?_map] at hi
   cases e:(opnL x n)[i]? with
   | none=>rw [e] at hi; cases hi
   | some q =>
    rw [e] at hi
    cases hi
    obtain ⟨hq,xq⟩:=opn_mem.mp (List.mem_of_getElem? e)
    refine ⟨t,dx,kp,bt,n,m,rs,x,z,q,v4,rfl,tab.mono (s1'.trans' s2),hz,n12,hSz,h0,hrs,hq,fun a H3 ha hf s3=>?_⟩
    refine ⟨_,rfl,_,rfl,_,rfl,z,n,q,a,rfl,hz.len,hq,by omega,?_⟩
    refine ⟨_,_,tx n (setC z q a),rfl,s2.trans' s3,⟨tx_len _ _,fun j hj=>?_⟩,fit_set hSz hq hf,fun j hj hx'=>?_,fun j hj=>?_⟩
    ·rw [ch_tx hj]
     unfold setC
     split
     ·unfold Sign at ha; omega
     ·exact hz.sgn j hj
    ·rw [ch_tx hj]
     unfold setC
     rw [if_neg (fun w=>by rw [w] at hx'; exact hx' xq)]
     exact agr j hj hx'
    ·have jn:j < n:=(opn_mem.mp (List.mem_of_mem_take hj)).1
     rw [ch_tx jn]
     unfold setC
     split
     ·unfold Sign at ha; omega
     ·rename_i ne
      rw [List.take_add_one,e] at hj
      rcases List.mem_append.mp hj with hj | hj
      ·exact fl j hj
      ·exact absurd (List.mem_singleton.mp hj) ne
  ·rintro σ H2 ⟨v3,v4,z,rfl,s2,hz,hSz,agr,fl⟩
   rw [List.length_map,List.take_length] at fl
   have ne:∀ j,j < n->¬ ch z j=45:=fun j hj=>by
    by_cases e:ch x j=45
    ·exact fl j (opn_mem.mpr ⟨hj,e⟩)
    ·rw [agr j hj e]; exact e
   have hR:Row n z:=⟨hz.len,fun j hj=>by have:=hz.sgn j hj; have:=ne j hj; omega⟩
   exact ⟨_,rfl,k z H2 hR (fun q r hq hr=>hSz q r hq hr (ne q hq) (ne r hr)) agr (s1'.trans' s2)⟩
end
end K63
namespace K63
open PySem L2
open PyProof.Rows (envOfC)
abbrev s_bears:Stmt:=top 56
abbrev s_lmat:Stmt:=top 60
section
variable {P:Program}{w:World}{K:PySem.W.Frag}{mg:Str->Option Value}{base:Heap}{C fi fa ft fy fm fc:Addr}{gi ga gt gy gm gc:FuncData}
def spBears (K:PySem.W.Frag):Sp:=fun vs H Q _=>∃(l:Addr) (n:Nat) (rs:List Str) (q a r b:Nat),vs=[.ref l,.int q,s1 a,.int r,s1 b]/\SqL K H l (rs.map V.str)/\(∀ x∈rs,Row n x)/\n<=12/\q < n/\r < n/\Q (.bl (decide (0 < cntB rs q a r b))) H
abbrev Nbe:List Str:=["_law_rows_here", "_law_q", "_law_a", "_law_r", "_law_b", "_law_row"]
abbrev Pbe:List Str:=["_law_rows_here", "_law_q", "_law_a", "_law_r", "_law_b"]
theorem sc_bears:FnScope Nbe Pbe (defScope s_bears):=⟨rfl,rfl,rfl,by decide +kernel,rfl,by decide +kernel,by decide +kernel⟩
theorem ok_bears {f:Addr}{fd:FuncData}(D:Df K mg "_law_bears" s_bears Pbe f fd):FnOk P w K mg base (CXE P w) 1 f fd Pbe (spBears K):=by
 refine D.F.okN sc_bears (fun vs H Q E h=>?_) (fun cdv A outer s H vs Q E hr h=>?_)
 ·obtain ⟨l,n,rs,q,a,r,b,rfl,_⟩:=h
  rfl
 ·obtain ⟨l,n,rs,q,a,r,b,rfl,hl,hx,n12,hq,hr',k⟩:=h
  refine ⟨_,pss_cons (ps_for PassesOwn.never rfl (pi_list (pv 0)) (pg_name (i:=5) sc_bears.nd rfl (Or.inl rfl))
    (pss_one (ps_if (PW.pt (pw_and (pt_cmpR op_eq (pe_ix ix_str (pv 5) (pv 1) (fun _ _=>rfl)) (pv 2) (nomark _)) (pw_and1 (pt_cmpR op_eq (pe_ix ix_str (pv 5) (pv 3) (fun _ _=>rfl)) (pv 4) (nomark _))))) (pss_one (ps_ret pe_bl)) pss_nil)))
   (pss_one (ps_ret pe_bl)),?_⟩
  refine ⟨_,rfl,l,rfl,⟨_,hl⟩,for_list (K:=K) (a:=l) (xs:=rs.map V.str) (fun i σ H2=>∃ v,σ=[some (.ref l),some (.int q),some (s1 a),some (.int r),some (s1 b),v]/\H2=H/\∀ x∈rs.take i,¬ (ch x q=a/\ch x r=b))
   ⟨none,rfl,rfl,fun x hx=>by simp at hx⟩ (fun i σ H2 _ ⟨_,_,z,_⟩=>by rw [z]; exact hl) ?_ ?_⟩
  ·rintro i y σ H2 hi ⟨v,rfl,rfl,no⟩
   rw [List.getElem?_map] at hi
   cases z:rs[i]? with
   | none=>rw [z] at hi; cases hi
   | some x =>
    rw [z] at hi
    cases hi
    have hrow:=hx x (List.mem_of_getElem? z)
    have sz:x.length<=sizeLine:=by rw [hrow.len]; exact len_le (by omega)
    have next:¬ (ch x q=a/\ch x r=b)->∃ v,[some (V.ref l),some (V.int q),some (s1 a),some (V.int r),some (s1 b),some (V.str x)]=[some (.ref l),some (.int q),some (s1 a),some (.int r),some (s1 b),v]/\H2=H2/\∀ x∈rs.take (i + 1),¬ (ch x q=a/\ch x r=b):=fun hn=>⟨_,rfl,rfl,fun x' hx'=>by
     rw [List.take_add_one,z] at hx'
     rcases List.mem_append.mp hx' with h | h
     ·exact no x' h
     ·rw [List.mem_singleton.mp h]; exact hn⟩
    refine ⟨_,rfl,_,rfl,_,_,_,rfl,rfl,sz,ch_at hrow hq,_,rfl,rfl,_,rfl,ite2 (fun c1=>?_) (fun c1=>?_)⟩
    ·have c1:decide (s1 (ch x q)=s1 a)=true:=c1
     rw [dec_s1] at c1
     have c1:ch x q=a:=by simpa using c1
     refine ⟨_,rfl,_,rfl,_,_,_,rfl,rfl,sz,ch_at hrow hr',_,rfl,rfl,_,rfl,ite2 (fun c2=>?_) (fun c2=>?_)⟩
     ·have c2:decide (s1 (ch x r)=s1 b)=true:=c2
      rw [dec_s1] at c2
      have c2:ch x r=b:=by simpa using c2
      rw [decide_eq_true (cnt_pos.mpr ⟨x,List.mem_of_getElem? z,c1,c2⟩)] at k
      exact k
     ·have c2:¬ decide (s1 (ch x r)=s1 b)=true:=c2
      rw [dec_s1] at c2
      exact next fun w=>c2 (by rw [w.2]; exact decide_eq_true rfl)
    ·have c1:¬ decide (s1 (ch x q)=s1 a)=true:=c1
     rw [dec_s1] at c1
     exact iteF (next fun w=>c1 (by rw [w.1]; exact decide_eq_true rfl))
  ·rintro σ H2 ⟨v,rfl,rfl,no⟩
   rw [List.length_map,List.take_length] at no
   rw [decide_eq_false (fun w=>by obtain ⟨x,hx',e⟩:=cnt_pos.mp w; exact no x hx' e)] at k
   exact k
end
end K63
namespace L2
open PySem PySem.Spec PyProof.Rows
def bigB (h:Heap) (H:Hp) (st:List Env):Heap:=PySem.W.hideAll h (trk h H ++ frs st)
theorem bigB_get {h:Heap}{H:Hp}{st:List Env}{b:Addr}{o:Obj}(e:h.get? b=some o) (n:H b=none) (hf:b∉frs st):(bigB h H st).get? b=some o :=
 PySem.W.hideAll_get _ e fun hm=>by
  rcases List.mem_append.mp hm with hm | hm
  ·have q:(H b).isSome=true:=(List.mem_filter.mp hm).2
   rw [n] at q; simp at q
  ·exact hf hm
theorem of_bigB {h:Heap}{H:Hp}{st:List Env}{b:Addr}{o:Obj}(e:(bigB h H st).get? b=some o):h.get? b=some o/\H b=none:=by
 have e':h.get? b=some o:=PySem.W.of_hideAll _ e
 refine ⟨e',?_⟩
 cases q:H b with
 | none=>rfl
 | some x =>
  have hm:b∈trk h H:=List.mem_filter.mpr ⟨List.mem_range.mpr (Heap.lt_size e'),by simp [q]⟩
  have z:(bigB h H st).get? b=none:=PySem.W.hideAll_none _ (List.mem_append_left _ hm)
  rw [z] at e; cases e
theorem Mod.keeps {K:PySem.W.Frag}{mg:Str->Option Value}{b1 b2:Heap}(m:Mod K mg b1) (k:∀ b o,b1.get? b=some o->b2.get? b=some o):Mod K mg b2 :=
 ⟨m.kin.keeps k,m.glob.keeps k,let ⟨mb,h1,h2⟩:=m.blt; ⟨mb,h1.keeps k,h2⟩,m.nolimit.keeps k⟩
theorem Env0.stays {P:Program}{w:World}{K:PySem.W.Frag}{mg:Str->Option Value}{base:Heap}{A:Around}{outer:List Env}{s:Shared}{H:Hp}(e:Env0 P w K mg base A outer s H) {b:Addr}{o:Obj}(q:base.get? b=some o):(bigB s.heap H outer).get? b=some o :=
 bigB_get (e.bs b o q).1 (e.bs b o q).2 fun hm=>by
  have:=(e.funs.mem hm).1
  rw [q] at this; cases this
theorem Env0.big {P:Program}{w:World}{K:PySem.W.Frag}{mg:Str->Option Value}{base:Heap}{A:Around}{outer:List Env}{s:Shared}{H:Hp}(e:Env0 P w K mg base A outer s H):Env0 P w K mg (bigB s.heap H outer) A outer s H :=
 ⟨e.frames,e.mod.keeps fun _ _ q=>e.stays q,fun _ _ q=>of_bigB q,Nat.le_of_eq (PySem.W.hideAll_size _ _),PySem.W.funFrames_hide e.funs fun env he a ha=>List.mem_append_right _ (List.mem_filterMap.mpr ⟨env,he,ha⟩),e.frf,e.hok,e.bare⟩
def CodeE (c:Addr) (q:Str):HO:=.ext fun h=>h.CodeRec (.ref c) q
theorem CodeE.ok {P:Program}{w:World}{H:Hp}{h:Heap}{c:Addr}{q:Str}(r:h.CodeRec (.ref c) q):ObjOk P w H h c (CodeE c q):=by
 refine ⟨r,?_,fun h1 h2 r1 k=>?_⟩
 ·obtain ⟨_,o,_,_,e,ho,_⟩:=r
  cases e
  exact ⟨o,ho⟩
 ·obtain ⟨_,o,vs,t,e,ho,r⟩:=r1
  cases e
  exact ⟨c,o,vs,t,rfl,k o ho,r⟩
structure TabOk (H:Hp) (P:Addr) (q:Str):Prop where
 ex:∃ ps,H P=some (.tbl ps)/\TriplesOk ps.toList/\∀ pos cv,codeAmong pos ps.toList=some cv->∃ c,cv=.ref c/\c≠P/\H c=some (CodeE c q)
theorem TabOk.same {H H':Hp}{P:Addr}{q:Str}(t:TabOk H P q) (e:Same H H'):TabOk H' P q:=by
 obtain ⟨ps,h1,h2,h3⟩:=t
 exact ⟨ps,e _ _ h1,h2,fun pos cv z=>let ⟨c,e1,e2,e3⟩:=h3 pos cv z; ⟨c,e1,e2,e _ _ e3⟩⟩
theorem among_snoc (pos p2:Pos) (c v:Value):∀(l:List Value),TriplesOk l->codeAmong pos (l ++ [rawInt p2.line,rawInt p2.col,c])=some v->codeAmong pos l=some v∨v=c
 | [],_,h=>by
  rw [List.nil_append] at h
  unfold rawInt at h
  simp only [codeAmong] at h
  split at h
  ·exact .inr (Option.some.inj h).symm
  ·cases h
 | .int a _ :: .int b _ :: x :: r,ok,h=>by
  simp only [List.cons_append,codeAmong] at h ⊢
  split at h
  ·rename_i z
   rw [if_pos z]
   exact .inl h
  ·rename_i z
   rw [if_neg z]
   exact among_snoc pos p2 c v r ok h
def SameP (P:Addr) (H H':Hp):Prop:=∀ b o,b≠P->H b=some o->H' b=some o
theorem SameP.refl (P:Addr) (H:Hp):SameP P H H:=fun _ _ _ e=>e
theorem SameP.trans {P:Addr}{H H1 H2:Hp}(a:SameP P H H1) (b:SameP P H1 H2):SameP P H H2:=fun c o n e=>b c o n (a c o n e)
theorem SameP.of {P:Addr}{H H':Hp}(e:Same H H'):SameP P H H':=fun b o _ q=>e b o q
end L2
namespace L2
open PySem PySem.Spec PyProof.Rows
structure BMain (mg:Str->Option Value) (base:Heap):Prop where
 ex:∃ bm ob,mg "__builtins__" = some (.ref bm)/\bm≠builtinsNs/\base.get? bm=some ob/\ob.cls=.type "module" /\ ob.dict=some builtinsNs/\ob.data=.plain
theorem BMain.keeps {mg:Str->Option Value}{b1 b2:Heap}(m:BMain mg b1) (k:∀ b o,b1.get? b=some o->b2.get? b=some o):BMain mg b2 :=
 let ⟨bm,ob,e1,e2,e3,r⟩:=m.ex; ⟨bm,ob,e1,e2,k _ _ e3,r⟩
abbrev lamObj (qual:Str) (params:Arguments) (body:Expr) (scope:Scope) (cl:List (Str×Addr)) (pm:Value) (c:Addr) (ctv:Value):Obj:=PySem.W.kla_obj "<lambda>" qual params body scope cl pm c ctv
section
variable {X:Cx}{pins:List (Addr×Obj)}{σ:St}{H:Hp}{s:Shared}
theorem Inv.notStack (I:Inv X pins σ H s) {b:Addr}(h:s.heap.objs.size<=b):b∉frs X.stack:=fun hm=>by
 obtain ⟨_,o,ho,_⟩:=I.stack.mem hm
 exact absurd (Nat.lt_of_lt_of_le (Heap.lt_size ho) h) (Nat.lt_irrefl _)
theorem lam_make {params:Arguments}{body:Expr}{scope:Scope}{pos:Pos}{c P:Addr}{cl:List (Str×Addr)}{Q:Value->Shared->Prop}(I:Inv X pins σ H s) (hdef:defaultsOf params X.env=([],[])) (hcl:closureFor scope X.env=pure cl) (hcode:X.env.code=.ref c)
  (C:PySem.W.CodeHd X.base c P) (B:BMain X.mg X.base) (T:TabOk H P (X.env.qual ++ "<lambda>"))
  (h:∀(f c':Addr) (ctv:Value) (H1:Hp) (s1:Shared),Inv X pins σ H1 s1->s1.heap.get? f=some (lamObj (X.env.qual ++ "<lambda>") params body scope cl ((X.mg "__name__").getD .none) c' ctv)->H1 f=none->f∉frs X.stack ->
   H1 c'=some (CodeE c' (X.env.qual ++ "<lambda>"))->TabOk H1 P (X.env.qual ++ "<lambda>")->SameP P H H1->Q (.ref f) s1):wpAny (model X.prog X.w) X.A (eval (.Lambda params body scope pos) X.env) Q X.xe s:=by
 refine PySem.W.kla_eval hdef ?_
 obtain ⟨ps,hT,tr,hcs⟩:=T.ex
 have hP:s.heap.get? P=some (PySem.W.tabObj ps):=I.hok P _ hT
 have hg:=I.ok.mod.glob.keeps I.bk
 have nG:mainGlobals≠P:=fun z=>by
  obtain ⟨o,es,ep,e,_⟩:=I.ok.mod.glob
  have:=(I.bs _ _ e).2
  rw [z,hT] at this; cases this
 obtain ⟨bm,ob,b1,b2,b3,b4,b5,b6⟩:=B.ex
 have nP:bm≠P:=fun z=>by
  have:=(I.bs _ _ b3).2
  rw [z,hT] at this; cases this
 have nM:bm≠mainGlobals:=fun z=>by
  obtain ⟨o,es,ep,e,hd,_⟩:=I.ok.mod.glob
  rw [z,e] at b3; cases b3; rw [hd] at b6; cases b6
 have hB:s.heap.BuiltinsAt X.mg P:=⟨bm,ob,b1,b2,nM,nP,I.bk _ _ b3,b4,b5,b6⟩
 cases hf:codeAmong pos ps.toList with
 | some cv =>
  obtain ⟨c',rfl,ne,hc'⟩:=hcs pos cv hf
  refine PySem.W.kla_makeFunctionHit (mg:=X.mg) hcl I.ok.glob hg hcode (C.keeps I.bk) hP tr hf hB fun ctv h' tk hk hsz=>?_
  have k2:∀ b o,s.heap.get? b=some o->(h'.push (lamObj (X.env.qual ++ "<lambda>") params body scope cl ((X.mg "__name__").getD .none) c' ctv)).get? b=some o:=fun b o e=>Heap.get?_push_of_some _ (hk b o e)
  have hfr:H h'.objs.size=none:=I.hok.fresh hsz
  exact h _ c' ctv H _ (I.kept k2) (Heap.get?_push_size _ rfl) hfr (I.notStack hsz) hc' T (SameP.refl P H)
 | none =>
  refine PySem.W.kla_makeFunction (mg:=X.mg) hcl I.ok.glob hg hcode (C.keeps I.bk) hP tr hf nG hB fun c' ctv h' tk hx hge hlt hrec htb=>?_
  generalize hO:PySem.W.kla_obj "<lambda>" (X.env.qual ++ "<lambda>") params body scope cl ((X.mg "__name__").getD .none) c' ctv=O
  have k2:∀ b o,b≠P->s.heap.get? b=some o->(h'.push O).get? b=some o:=fun b o n e=>Heap.get?_push_of_some _ (hx b o n e)
  have hc0:H c'=none:=I.hok.fresh hge
  have nc:c'≠P:=fun z=>by rw [z,hT] at hc0; cases hc0
  have hsz:s.heap.objs.size<=h'.objs.size:=Nat.le_of_lt (Nat.lt_of_le_of_lt hge hlt)
  have hf0:H h'.objs.size=none:=I.hok.fresh hsz
  have old:∀ b u,b≠P->H b=some u->upd (upd H P (.tbl (ps ++ #[rawInt pos.line,rawInt pos.col,.ref c']))) c' (CodeE c' (X.env.qual ++ "<lambda>")) b=some u:=fun b u n e=>by
   rw [upd_ne (ne_of_none e hc0),upd_ne n]; exact e
  have eP:upd (upd H P (.tbl (ps ++ #[rawInt pos.line,rawInt pos.col,.ref c']))) c' (CodeE c' (X.env.qual ++ "<lambda>")) P=some (.tbl (ps ++ #[rawInt pos.line,rawInt pos.col,.ref c'])):=by
   rw [upd_ne (Ne.symm nc),upd_same]
  have J:Inv X pins σ (upd (upd H P (.tbl (ps ++ #[rawInt pos.line,rawInt pos.col,.ref c']))) c' (CodeE c' (X.env.qual ++ "<lambda>"))) { s with heap:=h'.push O,toks:=tk }:=by
   refine I.step (g':=s.gens) (d':=s.drawn) (ch:=[]) (fun _ z=>nomatch z) (fun b o _ _ _ e n=>k2 b o (fun z=>by rw [z,hT] at n; cases n) e) (fun b o _ _ _ e n=>⟨o.slots,k2 b o (fun z=>by rw [z,hT] at n; cases n) e⟩) (fun b o _ e n=>?_) (fun b o _ e=>?_)
    (fun b xs e=>old b _ (fun z=>by rw [z,hT] at e; cases e) e) (fun b o u e=>old b _ (fun z=>by rw [z,hT] at e; cases e) e) (fun b qs e=>?_) (fun m hm=>?_) (fun b u e=>?_) I.bare
   ·rw [upd_ne (fun z=>absurd (Heap.lt_size e) (by rw [z]; exact Nat.not_lt.mpr hge)),upd_ne (fun z=>by rw [z,hT] at n; cases n)]
    exact n
   ·by_cases z:b=P
    ·subst z; exact ⟨_,Heap.get?_push_of_some _ htb⟩
    ·exact ⟨o,k2 b o z e⟩
   ·by_cases z:b=P
    ·subst z
     rw [hT] at e; cases e
     exact ⟨_,eP⟩
    ·exact ⟨#[],by rw [old b _ z e]; simp⟩
   ·obtain ⟨o,es,ep,e,r⟩:=hm
    exact ⟨o,es,ep,k2 _ o (fun z=>by have n:=I.free; rw [z,hT] at n; cases n) e,r⟩
   ·by_cases z1:b=c'
    ·subst z1
     rw [upd_same] at e; cases e
     refine CodeE.ok ?_
     obtain ⟨c2,o,vs,t,e1,e2,r⟩:=hrec
     exact ⟨c2,o,vs,t,e1,Heap.get?_push_of_some _ e2,r⟩
    ·rw [upd_ne z1] at e
     by_cases z2:b=P
     ·subst z2
      rw [upd_same] at e; cases e
      exact Heap.get?_push_of_some _ htb
     ·rw [upd_ne z2] at e
      refine (I.hok b u e).stay (fun d v hd q=>k2 d v ?_ q) (fun d q=>old d _ (fun z=>by rw [z,hT] at q; cases q) q) fun d xs q=>old d _ (fun z=>by rw [z,hT] at q; cases q) q
      rcases hd with z | z
      ·rw [z]; exact z2
      ·intro z3; rw [z3,hT] at z; cases z
  refine h _ c' ctv _ _ J (by rw [<- hO]; exact Heap.get?_push_size _ rfl) ?_ (I.notStack hsz) upd_same ⟨_,eP,?_,fun p2 cv z=>?_⟩ (fun b o n e=>old b o n e)
  ·rw [upd_ne (Nat.ne_of_gt hlt),upd_ne (fun z=>by rw [z,hT] at hf0; cases hf0)]
   exact hf0
  ·have:=TriplesOk_snoc pos.line pos.col (.ref c') ps.toList tr
   simpa using this
  ·have z':codeAmong p2 (ps.toList ++ [rawInt pos.line,rawInt pos.col,.ref c'])=some cv:=by simpa using z
   rcases among_snoc p2 pos (.ref c') cv ps.toList tr z' with y | y
   ·obtain ⟨d,e1,e2,e3⟩:=hcs p2 cv y
    exact ⟨d,e1,e2,old d _ e2 e3⟩
   ·exact ⟨c',y,nc,upd_same⟩
end
end L2
namespace L2
open PySem PySem.Spec PyProof.Rows
def cxLam (CX:CXT) (P:Program) (w:World) (K:PySem.W.Frag) (mg:Str->Option Value) (base:Heap) (N:List Str) (qual:Str) (scope:Scope) (f:Addr) (cd:Value) (cl:List (Str×Addr)) (A:Around) (outer:List Env) (s:Shared) (H:Hp) (E:XK):Cx where
 prog:=P
 w:=w
 K:=K
 mg:=mg
 base:=base
 A:=A.deeper (PySem.W.envX qual scope s.heap.objs.size f cd cl)
 N:=N
 s₀:=s
 H₀:=H
 env:=PySem.W.envX qual scope s.heap.objs.size f cd cl
 outer:=outer
 stack:=PySem.W.envX qual scope s.heap.objs.size f cd cl :: outer
 ex:=[]
 calm:=true
 fn:=fun _=>false
 pn:=[]
 xe:=fun e s'=>wpAny (model P w) (A.deeper (PySem.W.envX qual scope s.heap.objs.size f cd cl)) (leaving (PySem.W.envX qual scope s.heap.objs.size f cd cl) e) (fun _ s''=>CX outer H s E e s'') (fun e' s''=>CX outer H s E e' s'') s'
structure LamScope (sc:Scope):Prop where
 kind:sc.kind=.function
 co:sc.isCoroutine=false
 gen:sc.isGenerator=false
 nocell:∀ x∈sc.names,x.2≠.cell
structure Caps (base:Heap) (N:List Str) (scope:Scope) (cl:List (Str×Addr)) (σ:St):Prop where
 inj:∀ x y c,cl.lookup x=some c->cl.lookup y=some c->x=y
 has:∀ x,scope.names.lookup x=some .free->∃ c,cl.lookup x=some c
 cell:∀ x c,cl.lookup x=some c->∃ v,base.IsCell c v
 val:∀(i:Nat) (x:Str) (v:V),N[i]? = some x->σ[i]? = some (some v)->∃ c u,scope.names.lookup x=some .free/\cl.lookup x=some c/\base.IsCell c (some u)/\RelV v u
 len:σ.length=N.length
section
variable {CX:CXT}{P:Program}{w:World}{K:PySem.W.Frag}{mg:Str->Option Value}{base:Heap}{k:Nat}{f c:Addr}{qual:Str}{params:Arguments}{body:Expr}{scope:Scope}{cl:List (Str×Addr)}{pm ctv:Value}{N:List Str}{σ:St}{sp:Sp}
theorem lam_fn (ho:base.get? f=some (lamObj qual params body scope cl pm c ctv)) (S:LamScope scope) (Cp:Caps base N scope cl σ) (len:∀ vs H Q E,sp vs H Q E->vs=[]) (hcd:∀ H Q E,sp [] H Q E->H c=some (CodeE c qual))
  (hbody:∀(A:Around) (outer:List Env) (s:Shared) (H:Hp) (Q:VK) (E:XK),Room k (A.deeper (PySem.W.envX qual scope s.heap.objs.size f (.ref c) cl))->sp [] H Q E ->
   ∃ t,PE (cxLam CX P w K mg base N qual scope f (.ref c) cl A outer s H E) body t/\t σ H Q) :
  FnOk P w K mg base CX (k + 1) f (PySem.W.kla_fn "<lambda>" qual params body scope cl pm (.ref c) ctv) [] sp:=by
 refine ⟨fun vs H Q E h=>by rw [len vs H Q E h]; rfl,fun A outer s H args us vs Q E hr e0 hb r hsp=>?_⟩
 obtain rfl:=len _ _ _ _ hsp
 have lim:s.heap.NoLimit:=e0.mod.nolimit.keeps fun b o e=>(e0.bs b o e).1
 have hC:=hcd H Q E hsp
 have rcd:s.heap.CodeRec (.ref c) qual:=(e0.hok c _ hC).1
 refine PySem.W.kla_callFunE hr.depth (e0.bs _ _ ho).1 rfl S.co S.gen rfl rcd (hb _ _ _ _ ?_)
 refine wpAny_newFunctionEnv S.nocell (fun x hx=>?_) (fun h1 hns hsb=>?_) S.kind
 ·exact absurd (show x∈([]:List (Str×Value)) from hx) (by simp)
 have hk:∀ b o,s.heap.get? b=some o->h1.get? b=some o:=fun b o e=>(hsb.2 b (Nat.ne_of_lt (Heap.lt_size e))).trans (Heap.get?_push_of_some _ e)
 refine ⟨lim.keeps hk,?_⟩
 show codeAny _ _ (.expr body (PySem.W.envX qual scope s.heap.objs.size f (.ref c) cl)) _ _
 obtain ⟨t,ht,hq⟩:=hbody A outer s H Q E (hr.deeper _) hsp
 have cellH:∀ x d v,cl.lookup x=some d->base.IsCell d v->h1.IsCell d v/\H d=none:=fun x d v _ ⟨o,e,z⟩=>⟨⟨o,hk _ _ (e0.bs _ _ e).1,z⟩,(e0.bs _ _ e).2⟩
 have I:Inv (cxLam CX P w K mg base N qual scope f (.ref c) cl A outer s H E) [] σ H { s with heap:=h1,toks:=s.toks + (([]:List Str).zip us).length }:=by
  have noA:∀ b:Addr,b∉(cxLam CX P w K mg base N qual scope f (.ref c) cl A outer s H E).ex:=fun b z=>absurd (show b∈([]:List Addr) from z) (by simp)
  refine ⟨⟨e0.mod,S.kind,rfl,rfl,Nat.le_refl _,Cp.inj,fun y hy=>?_,fun y d z _=>?_,fun _=>hr.hd,Around.frames_deeper e0.frames,.inr ⟨rfl,rfl⟩,fun b z=>absurd z (noA b),e0.bs,e0.bsz,fun b _ _=>noA b,fun b z=>absurd z (noA b),e0.funs,e0.frf⟩,
   rfl,e0.bare,Un.kept hk,⟨_,hns,fun i y v h1 h2 h3=>?_⟩,fun y d h=>?_,e0.hok.fresh (Nat.le_refl _),fun y d h=>?_,fun p hp=>absurd (show p∈([]:List (Addr×Obj)) from hp) (by simp),e0.hok.kept hk,Cp.len⟩
  ·have hy:scope.names.lookup y=some .cell∨scope.names.lookup y=some .free:=hy
   rcases hy with hy | hy
   ·exact absurd rfl (S.nocell _ (PySem.mem_of_lookup hy))
   ·exact Cp.has y hy
  ·exact absurd (show false=true from z) (by decide)
  ·obtain ⟨d,u,k1,k2,k3,k4⟩:=Cp.val i y v h1 h2
   exact ⟨u,k4,.inr ⟨.inr k1,d,k2,(cellH y d _ k2 k3).1⟩⟩
  ·obtain ⟨v,z⟩:=Cp.cell y d h
   exact ⟨v,(cellH y d _ h z).1⟩
  ·obtain ⟨v,z⟩:=Cp.cell y d h
   exact (cellH y d _ h z).2
 refine PySem.W.kla_codeExpr (wpAny_mono (ht [] _ σ H Q I hq) (fun u s' hs=>?_) fun e s' hs=>hs)
 obtain ⟨v,H',J,rv,q⟩:=hs
 exact ⟨v,H',J.os,J.bare,J.base,J.hok,rv,q⟩
end
theorem passL {P:Program}{w:World}{K:PySem.W.Frag}{mg:Str->Option Value}{base:Heap}{N:List Str}{qual:Str}{scope:Scope}{f:Addr}{cd:Value}{cl:List (Str×Addr)}{A:Around}{outer:List Env}{s:Shared}{H:Hp}{E:XK} :
  Passes (CXE P w) (cxLam (CXE P w) P w K mg base N qual scope f cd cl A outer s H E) E:=by
 intro pins σ H1 s1 e s2 I h
 obtain ⟨ea,C,dx,tb,H0,H2,rfl,os,bare,un,hok,e1,ht,sx,n0,q⟩:=h
 have J:Inv (cxLam (CXE P w) P w K mg base N qual scope f cd cl A outer s H E) pins σ H2 s2:=I.call' (ch:=[]) os un hok bare fun b z=>absurd z (by simp)
 refine leave_ok (X:=cxLam (CXE P w) P w K mg base N qual scope f cd cl A outer s H E) rfl rfl J e1 ht fun s3 T H3 J3 e3 eT sx3=>?_
 exact ⟨ea,C,dx,.ref T,H0,H3,rfl,J3.os,J3.bare,J3.base,J3.hok,e3,.inr ⟨T,rfl,eT⟩,fun b o hb z=>sx3 b o hb (sx b o hb z),n0,q⟩
end L2
namespace L2
open PySem PySem.Spec PyProof.Rows
def lcl (env:Env):List (Str×NameKind)->List (Str×Addr)->List (Str×Addr)
 | [],acc=>acc
 | (x,k) :: r,acc=>if (k == .free)=true then lcl env r ((x,(env.cells.lookup x).getD 0) :: acc) else lcl env r acc
theorem forIn_cl {env:Env}{f:Str×NameKind->List (Str×Addr)->Sem (ForInStep (List (Str×Addr)))}(hf:∀ x k cs,f (x,k) cs=if (k == .free)=true then (do let c <- cellOf env x; pure (.yield ((x,c) :: cs))) else pure (.yield cs)) :
  ∀(names:List (Str×NameKind)) (acc:List (Str×Addr)),(∀ y∈names,y.2=.free->∃ c,env.cells.lookup y.1=some c)->forIn names acc f=pure (lcl env names acc)
 | [],acc,_=>by simp [lcl]
 | (x,k) :: r,acc,h=>by
  rw [List.forIn_cons,hf]
  unfold lcl
  by_cases hk:(k == .free)=true
  ·obtain ⟨c,e⟩:=h (x,k) (.head _) (eq_of_beq hk)
   have e:env.cells.lookup x=some c:=e
   have e2:cellOf env x=pure c:=by unfold cellOf; rw [e]
   rw [if_pos hk,if_pos hk,e2,pure_bind,pure_bind,e]
   exact forIn_cl hf r _ fun y hy=>h y (.tail _ hy)
  ·rw [if_neg hk,if_neg hk,pure_bind]
   exact forIn_cl hf r _ fun y hy=>h y (.tail _ hy)
theorem closure_eq {scope:Scope}{env:Env}(h:∀ y∈scope.names,y.2=.free->∃ c,env.cells.lookup y.1=some c):closureFor scope env=pure (lcl env scope.names []):=by
 have e:=forIn_cl (env:=env) (f:=fun x cs=>if (x.2 == .free)=true then (do let c <- cellOf env x.1; pure (.yield ((x.1,c) :: cs))) else pure (.yield cs)) (fun _ _ _=>rfl) scope.names [] h
 show (forIn scope.names [] _ >>= fun cs=>pure cs)=_
 rw [bind_pure]
 exact e
theorem lcl_sound {env:Env}:∀(names:List (Str×NameKind)) (acc:List (Str×Addr)),(∀ y∈names,y.2=.free->∃ c,env.cells.lookup y.1=some c)->(∀ x c,acc.lookup x=some c->env.cells.lookup x=some c) ->
  ∀ x c,(lcl env names acc).lookup x=some c->env.cells.lookup x=some c
 | [],acc,_,ha=>ha
 | (x,k) :: r,acc,h,ha=>by
  unfold lcl
  by_cases hk:(k == .free)=true
  ·rw [if_pos hk]
   obtain ⟨c,e⟩:=h (x,k) (.head _) (eq_of_beq hk)
   have e:env.cells.lookup x=some c:=e
   refine lcl_sound r _ (fun y hy=>h y (.tail _ hy)) fun y d q=>?_
   rw [List.lookup_cons] at q
   split at q
   ·rename_i z
    rw [eq_of_beq z,e]
    rw [e] at q
    exact q
   ·exact ha y d q
  ·rw [if_neg hk]
   exact lcl_sound r _ (fun y hy=>h y (.tail _ hy)) ha
theorem lcl_acc {env:Env}{x:Str}:∀(names:List (Str×NameKind)) (acc:List (Str×Addr)),(acc.lookup x).isSome=true->((lcl env names acc).lookup x).isSome=true
 | [],acc,h=>h
 | (y,k) :: r,acc,h=>by
  unfold lcl
  split
  ·refine lcl_acc r _ ?_
   rw [List.lookup_cons]
   split
   ·rfl
   ·exact h
  ·exact lcl_acc r _ h
theorem lcl_has {env:Env}{x:Str}:∀(names:List (Str×NameKind)) (acc:List (Str×Addr)),(x,NameKind.free)∈names->((lcl env names acc).lookup x).isSome=true
 | (y,k) :: r,acc,h=>by
  unfold lcl
  rcases List.mem_cons.mp h with e | e
  ·cases e
   rw [if_pos (show (NameKind.free == NameKind.free)=true by decide)]
   refine lcl_acc r _ ?_
   rw [List.lookup_cons,beq_self_eq_true]
   rfl
  ·split
   ·exact lcl_has r _ e
   ·exact lcl_has r _ e
def capt (fm:List Nat) (σ:St):St:=fm.map fun j=>σ.getD j none
theorem caps_of {X:Cx}{pins:List (Addr×Obj)}{σ:St}{H:Hp}{s:Shared}{N:List Str}{scope:Scope}{fm:List Nat}(I:Inv X pins σ H s) (hfn:∀ x,X.fn x=true) (hfr:∀ y∈scope.names,y.2=.free->X.env.kindOf y.1=some .cell) (hfm:fm.length=N.length)
  (hN:∀(i:Nat) (x:Str),N[i]? = some x->scope.names.lookup x=some .free/\∃ j,fm[i]? = some j/\X.N[j]? = some x):Caps (bigB s.heap H X.stack) N scope (lcl X.env scope.names []) (capt fm σ):=by
 have hc:∀ y∈scope.names,y.2=.free->∃ c,X.env.cells.lookup y.1=some c:=fun y hy hk=>I.ok.has y.1 (.inl (hfr y hy hk))
 have sound:∀ x c,(lcl X.env scope.names []).lookup x=some c->X.env.cells.lookup x=some c:=lcl_sound scope.names [] hc fun x c e=>by cases e
 have cellB:∀ x c v,X.env.cells.lookup x=some c->s.heap.IsCell c v->(bigB s.heap H X.stack).IsCell c v:=fun x c v e ⟨o,ho,hd⟩=>by
  refine ⟨o,bigB_get ho (I.freeC x c e) fun hm=>?_,hd⟩
  rcases List.mem_cons.mp (I.stkSub c hm) with z | z
  ·exact I.cne x c e z
  ·obtain ⟨_,o2,ho2,_⟩:=I.ok.funs.mem z
   exact absurd (Nat.lt_of_lt_of_le (Heap.lt_size ho2) (I.ok.cab x c (hfn x) e)) (Nat.lt_irrefl _)
 refine ⟨fun x y c h1 h2=>I.ok.inj x y c (sound x c h1) (sound y c h2),fun x hx=>?_,fun x c e=>?_,fun i x v h1 h2=>?_,by unfold capt; rw [List.length_map]; exact hfm⟩
 ·exact Option.isSome_iff_exists.mp (lcl_has scope.names [] (PySem.mem_of_lookup hx))
 ·obtain ⟨v,z⟩:=I.cell x c (sound x c e)
  exact ⟨v,cellB x c v (sound x c e) z⟩
 ·obtain ⟨fr,j,e1,e2⟩:=hN i x h1
  have e3:σ[j]? = some (some v):=by
   unfold capt at h2
   rw [List.getElem?_map,e1] at h2
   have h2:some (σ.getD j none)=some (some v):=h2
   have h3:=Option.some.inj h2
   rw [List.getD_eq_getElem?_getD] at h3
   cases q:σ[j]? with
   | none=>rw [q] at h3; cases h3
   | some a=>rw [q] at h3; exact congrArg some h3
  obtain ⟨c,e4⟩:=Option.isSome_iff_exists.mp (lcl_has (env:=X.env) scope.names [] (PySem.mem_of_lookup fr))
  have e5:=sound x c e4
  have kd:X.env.kindOf x=some .cell:=hfr (x,.free) (PySem.mem_of_lookup fr) rfl
  obtain ⟨m,hn,hl⟩:=I.loc
  obtain ⟨u,r,l⟩:=hl j x v e2 e3 (.inr (.inl kd))
  refine ⟨c,u,fr,e4,cellB x c _ e5 ?_,r⟩
  rcases l with ⟨k,_⟩ | ⟨_,c2,k2,z⟩
  ·rw [kd] at k; cases k
  ·rw [e5] at k2; cases k2; exact z
end L2
namespace L2
open PySem PySem.Spec PyProof.Rows
section
variable {X:Cx}{CX:CXT}{k:Nat}{f:Addr}{fd:FuncData}{ps:List Str}{sp:Sp}{E:XK}{x:Str}{p pos:Pos}
theorem run_big {pins:List (Addr×Obj)}{σ:St}{H:Hp}{s:Shared}{Q:VK}{us:List Value}{vs:List V}(F:FnOk X.prog X.w X.K X.mg (bigB s.heap H X.stack) CX k f fd ps sp) (hr:Room k X.A) (hb:Binds X.K fd ps []) (hx:Passes CX X E)
  (I:Inv X pins σ H s) (r:Vals vs us) (h:sp vs H Q E):wpAny (model X.prog X.w) X.A (call (.ref f) us) (EP X pins σ Q) X.xe s:=by
 have hl:(us ++ []).length=ps.length:=by rw [List.append_nil,<- r.length]; exact F.len _ _ _ _ h
 have hbt:=hb s us I.kIn hl
 rw [List.append_nil] at hbt
 refine wpAny_call (codeAny_mono (F.run X.A X.stack s H ⟨us,[]⟩ us vs Q E hr I.env0.big hbt r h) fun r s' hq=>?_)
 cases r with
 | error e=>exact hx pins σ H s e s' I hq
 | ok fl =>
  cases fl with
  | ret u=>exact I.after hq
  | next=>exact False.elim hq
  | brk=>exact False.elim hq
  | cont=>exact False.elim hq
def tCallV (i:Nat) (f:Addr) (sp:Sp) (E:XK):TE:=fun σ H Q=>σ[i]? = some (some (.ref f))/\sp [] H Q E
theorem pe_callL {i:Nat}(G:FnOk X.prog X.w X.K X.mg X.base CX k f fd [] sp) (hr:Room k X.A) (ho:X.base.get? f=some { cls:=.type "function",data:=.func fd }) (hb:Binds X.K fd [] []) (hx:Passes CX X E) (hN:X.N[i]? = some x) (hv:Vis X.env.scope x)
  (hd:(x == ("__debug__" : Str))=false:=by decide) (hcd:(x == ("__classdict__" : Str))=false:=by decide):PE X (.Call (.Name x p) [] [] pos) (tCallV i f sp E):=by
 intro pins s σ H Q I h
 obtain ⟨e,h⟩:=h
 refine wpAny_Call_Name_kw (thn (pe_var hN hv hd hcd pins s σ H (fun v H'=>v=.ref f/\H'=H) I ⟨_,e,rfl,rfl⟩) fun u s1 ⟨v,H1,I1,r,ev,eH⟩=>?_)
 subst ev eH
 obtain rfl:u=Value.ref f:=r
 refine PySem.W.callWith_of (P:=fun h=>h.get? f=some { cls:=.type "function",data:=.func fd }) rfl (fun h q=>⟨.frame,.inl rfl,(PySem.W.Looks.ld (part:=none) q).andThen .now⟩) (evalArgs_nil3 ⟨I1.bk _ _ ho,?_⟩)
 exact run_fn (us:=[]) (vs:=[]) (dvs:=[]) G hr hb .nil hx I1 .nil h
def wordE (K:PySem.W.Frag) (W:Addr) (Q:VK):XK:=fun C d H0=>∃(Ca dx:Addr) (ww:Str),C=.ref Ca/\d=some dx/\H0 dx=some (.xd [("word",.str ww)])/\XSub K Ca W/\XKl K Ca/\∀ H' r,Same H0 H'->H' r=none->Q (.ref r) (upd H' r (.tup [.str ww]))
def toldQ (Q:VK):VK:=fun v H2=>[V.str "told",v].length<=sizeLine/\∀ r,H2 r=none->Q (.ref r) (upd H2 r (.tup [.str "told",v]))
theorem toldQ.mk {Q:VK}{v:V}{H2:Hp}(h:∀ r,H2 r=none->Q (.ref r) (upd H2 r (.tup [.str "told",v]))):toldQ Q v H2:=⟨Nat.le_trans (show 2<=100 by decide) (by decide),h⟩
def spWord (K:PySem.W.Frag) (W f:Addr) (spl:Sp):Sp:=fun vs H Q _=>vs=[.ref f]/\spl [] H (toldQ Q) (wordE K W Q)
def tWord (K:PySem.W.Frag) (W P:Addr) (q:Str) (fm:List Nat) (t:XK->TE):TE:=fun σ H Q=>TabOk H P q/\∀ H1,TabOk H1 P q->SameP P H H1->t (wordE K W Q) (capt fm σ) H1 (toldQ Q)
theorem pe_word {st:Stmt}{y:Str}{fw W c P:Addr}{fdw:FuncData}{kl kw:Nat}{params:Arguments}{body:Expr}{scope:Scope}{lpos:Pos}{N:List Str}{fm:List Nat}{t:XK->TE}(Dw:Df X.K X.mg x st [y] fw fdw)
  (Gw:∀(base:Heap) (f:Addr) (fdl:FuncData) (spl:Sp),base.get? f=some { cls:=.type "function",data:=.func fdl }->Binds X.K fdl [] []->FnOk X.prog X.w X.K X.mg base (CXE X.prog X.w) (kl + 1) f fdl [] spl ->
   FnOk X.prog X.w X.K X.mg base (CXE X.prog X.w) kw fw fdw [y] (spWord X.K W f spl))
  (hr:Room kw X.A) (hcode:X.env.code=.ref c) (C:PySem.W.CodeHd X.base c P) (B:BMain X.mg X.base) (hfn:∀ x,X.fn x=true)
  (S:LamScope scope) (hfr:∀ y∈scope.names,y.2=.free->X.env.kindOf y.1=some .cell) (hfm:fm.length=N.length) (hN:∀(i:Nat) (x:Str),N[i]? = some x->scope.names.lookup x=some .free/\∃ j,fm[i]? = some j/\X.N[j]? = some x)
  (hbl:∀(base:Heap) (f c':Addr) (A:Around) (outer:List Env) (s:Shared) (H:Hp) (E:XK),Room kl (A.deeper (PySem.W.envX (X.env.qual ++ "<lambda>") scope s.heap.objs.size f (.ref c') (lcl X.env scope.names []))) ->
   PE (cxLam (CXE X.prog X.w) X.prog X.w X.K X.mg base N (X.env.qual ++ "<lambda>") scope f (.ref c') (lcl X.env scope.names []) A outer s H E) body (t E))
  (hx:Passes (CXE X.prog X.w) X E0) (hg:Gl X x:=by rfl) (hdef:defaultsOf params X.env=([],[]):=by rfl)
  (hbind:∀(q:Str) (cl:List (Str×Addr)) (pm ctv:Value) (c':Addr),bindArgs (PySem.W.kla_fn "<lambda>" q params body scope cl pm (.ref c') ctv) ⟨[],[]⟩=pure []:=by intro _ _ _ _ _; rfl)
  (hdb:(x == ("__debug__" : Str))=false:=by decide):PE X (.Call (.Name x p) [.Lambda params body scope lpos] [] pos) (tWord X.K W P (X.env.qual ++ "<lambda>") fm t):=by
 intro pins s σ H Q I h
 obtain ⟨T,h⟩:=h
 have hc:∀ y∈scope.names,y.2=.free->∃ c,X.env.cells.lookup y.1=some c:=fun y hy hk=>I.ok.has y.1 (.inl (hfr y hy hk))
 refine wpAny_Call_Name_kw (ld_glob I hg Dw.mg ?_ hdb)
 refine PySem.W.callWith_K (h₀:=X.base) I.ok.mod.kin Dw.F.kp ?_ (by rfl) (by rfl)
 show wpAny _ _ (spliced ((false,eval (.Lambda params body scope lpos) X.env) :: backTo pos (starEach [] X.env))) _ _ s
 refine Calls.spliced_cons (lam_make I hdef (closure_eq hc) hcode C B T fun f c' ctv H1 s1 I1 ho nf nfr hC T1 sp1=>?_)
 refine Calls.spliced_nil ⟨I1.kIn,?_⟩
 have hob:(bigB s1.heap H1 X.stack).get? f=some (lamObj (X.env.qual ++ "<lambda>") params body scope (lcl X.env scope.names []) ((X.mg "__name__").getD .none) c' ctv):=bigB_get ho nf nfr
 have hbl':Binds X.K (PySem.W.kla_fn "<lambda>" (X.env.qual ++ "<lambda>") params body scope (lcl X.env scope.names []) ((X.mg "__name__").getD .none) (.ref c') ctv) [] []:=.all fun us hl=>by
  obtain rfl:=List.eq_nil_of_length_eq_zero hl
  exact hbind _ _ _ _ _
 have L:=lam_fn (CX:=CXE X.prog X.w) (P:=X.prog) (w:=X.w) (K:=X.K) (mg:=X.mg) (k:=kl) (sp:=fun vs H Q E=>vs=[]/\H c'=some (CodeE c' (X.env.qual ++ "<lambda>"))/\t E (capt fm σ) H Q) hob S (caps_of I1 hfn hfr hfm hN) (fun _ _ _ _ z=>z.1) (fun _ _ _ z=>z.2.1)
  fun A outer s H Q E hr z=>⟨t E,hbl _ f c' A outer s H E hr,z.2.2⟩
 exact run_big (E:=E0) (Gw _ f _ _ hob hbl' L) hr Dw.b hx I1 (vs:=[.ref f]) (.cons rfl .nil) ⟨rfl,rfl,hC,h H1 T1 sp1⟩
end
end L2
namespace L2
open PySem PySem.Spec PyProof.Rows
theorem law_callT {P:Program}{w:World}{K:PySem.W.Frag}{mg mb:Str->Option Value}{CX:CXT}{k:Nat}{fa a:Addr}{fd:FuncData}{x:Str}{sp:Sp}{s₁:Shared}{vs:List Value}{ns:List Int}{ts:List Addr}
  (KX:K.In s₁.heap) (hns:s₁.heap.Ns mainGlobals mg) (hb:s₁.heap.Ns builtinsNs mb) (hbb:∀ x:Str,x ≠ "__name__" -> mb x=bootBuiltins x) (hlim:s₁.heap.NoLimit) (hg:s₁.gens = #[])
  (ha:s₁.heap.get? a=some { cls:=.type "list",data:=.seq vs.toArray }) (hi:IntsAre vs ns) (hl:ns.length<=sizeLine) (hr:Room k callerA)
  (hT:∀ P∈ts,s₁.heap.get? P=some (PySem.W.tabObj #[])) (hKT:∀ P∈ts,K.lookup P=none) (hct:∀ P∈ts,isCodeTable s₁.heap P) (BM:BMain mg s₁.heap)
  (F:∀ base:Heap,K.In base->base.Ns mainGlobals mg->BMain mg base->FnOk P w K mg base CX k fa fd [x] sp) (hbind:∀(s:Shared) (u:Value),BindsTo s fd ⟨[u],[]⟩ [(x,u)])
  (hsp:∀ H:Hp,SqL K H a (ns.map V.int)->(∀ P∈ts,H P=some (.tbl #[]))->sp [.ref a] H (fun v _=>v=.bl true) fun _ _ _=>False)
  (hCX:∀ H e s',CX [] H s₁ (fun _ _ _=>False) e s'->False) :
  codeAny (model P w) callerA (.call (.ref fa) ⟨[.ref a],[]⟩) (fun r s'=>r=.ok (.ret (.bool true))/\OldK s₁.heap s'.heap/\s'.os=s₁.os/\AllBare s'.gens) s₁:=by
 have rv:=vals_ints hi
 have lenV:=hi.length
 have naT:a∉ts:=fun z=>by
  have:=hT a z
  rw [ha] at this
  cases this
 have core:∀ H:Hp,(∀ b,H b=none∨(b=a/\K.lookup a=none/\∃ xs,H b=some (.frz { cls:=.type "list",data:=.seq vs.toArray } (.lst xs)))∨(b∈ts/\H b=some (.tbl #[])))->SqL K H a (ns.map V.int)->(∀ P∈ts,H P=some (.tbl #[]))->HOk P w H s₁.heap ->
   codeAny (model P w) callerA (.call (.ref fa) ⟨[.ref a],[]⟩) (fun r s'=>r=.ok (.ret (.bool true))/\OldK s₁.heap s'.heap/\s'.os=s₁.os/\AllBare s'.gens) s₁:=by
  intro H hO hS hTs hok
  have base_of:∀{b:Addr} {o:Obj},s₁.heap.get? b=some o->H b=none->(hidT s₁.heap H).get? b=some o:=fun e n=>hidT_get e n
  have noT:∀{b:Addr} {o:Obj},s₁.heap.get? b=some o->(∀ n,o.data≠.seq vs.toArray n)->(∀ xs,o.data≠.fields xs)->H b=none:=fun {b o} e d1 d2=>by
   rcases hO b with z | ⟨rfl,_,_,z⟩ | ⟨z,_⟩
   ·exact z
   ·rw [ha] at e; cases e
    exact absurd rfl (d1 _)
   ·rw [hT b z] at e; cases e
    exact absurd rfl (d2 _)
  have nsK:∀{b:Addr} {m:Str->Option Value},s₁.heap.Ns b m->(hidT s₁.heap H).Ns b m:=fun {b m} ⟨o,es,ep,e,d,r⟩=>⟨o,es,ep,base_of e (noT e (fun n z=>by rw [d] at z; cases z) (fun xs z=>by rw [d] at z; cases z)),d,r⟩
  have hKb:K.In (hidT s₁.heap H):=fun b o e=>base_of (KX b o e) (by
   rcases hO b with z | ⟨rfl,z,_⟩ | ⟨z,_⟩
   ·exact z
   ·rw [z] at e; cases e
   ·rw [hKT b z] at e; cases e)
  have hM:Mod K mg (hidT s₁.heap H):=⟨hKb,nsK hns,⟨mb,nsK hb,hbb⟩,let ⟨mc,h1,h2⟩:=hlim; ⟨mc,nsK h1,h2⟩⟩
  have hBM:BMain mg (hidT s₁.heap H):=by
   obtain ⟨bm,ob,e1,e2,e3,e4,e5,e6⟩:=BM.ex
   exact ⟨bm,ob,e1,e2,base_of e3 (noT e3 (fun n z=>by rw [e6] at z; cases z) (fun xs z=>by rw [e6] at z; cases z)),e4,e5,e6⟩
  have e0:Env0 P w K mg (hidT s₁.heap H) callerA [] s₁ H:=⟨rfl,hM,fun b o e=>of_hidT e,Nat.le_of_eq (hidT_size _ _),trivial,fun b hb=>absurd (show b∈([]:List Addr) from hb) (by simp),hok,.of_eq hg⟩
  refine codeAny_mono ((F _ hKb (nsK hns) hBM).run callerA [] s₁ H ⟨[.ref a],[]⟩ [.ref a] [.ref a] _ _ hr e0 (hbind s₁ (.ref a)) (.cons rfl .nil) (hsp H hS hTs)) fun r s' h=>?_
  cases r with
  | error e=>exact (hCX H e s' h).elim
  | ok fl =>
   cases fl with
   | next=>exact False.elim h
   | brk=>exact False.elim h
   | cont=>exact False.elim h
   | ret u =>
    obtain ⟨v,H',os,bare,un,hok',r',q⟩:=h
    have q':v=.bl true:=q
    subst q'
    obtain rfl:u=Value.bool true:=r'
    refine ⟨rfl,⟨fun b o e=>?_,fun b o e=>un.there b o e (by simp)⟩,os,bare⟩
    rcases hO b with z | ⟨rfl,_,xs,z⟩ | ⟨zt,z⟩
    ·exact .inl (un.keep b o e z (by intro z; exact absurd (show b∈([]:List Addr) from z) (by simp)) (by simp))
    ·have z2:=un.frzs b _ _ z
     obtain ⟨e1,_⟩:=hok b _ z
     obtain ⟨e2,_⟩:=hok' b _ z2
     rw [e] at e1; cases e1
     exact .inl e2
    ·obtain ⟨more,z2⟩:=un.tbls b _ z
     have e1:=hok' b _ z2
     rw [hT b zt] at e; cases e
     exact .inr (.inl ⟨hct b zt,rfl,#[],more,rfl,e1⟩)
 have okT:∀(H:Hp) (b:Addr),b∈ts->ObjOk P w H s₁.heap b (.tbl #[]):=fun H b hb=>hT b hb
 cases hk:K.lookup a with
 | some o =>
  have e:=KX a o hk
  rw [ha] at e
  cases e
  refine core (fun b=>if b∈ts then some (.tbl #[]) else none) (fun b=>?_) (.inr ⟨_,vs.toArray,_,hk,rfl,rfl,rfl,by rw [List.size_toArray,lenV]; exact hl,by simpa using rv⟩) (fun b hb=>if_pos hb) (fun b u z=>?_)
  ·by_cases hb:b∈ts
   ·exact .inr (.inr ⟨hb,if_pos hb⟩)
   ·exact .inl (if_neg hb)
  ·by_cases hb:b∈ts
   ·have z':=(if_pos hb).symm.trans z
    cases z'
    exact okT _ b hb
   ·have z':=(if_neg hb).symm.trans z
    cases z'
 | none =>
  refine core (fun b=>if b∈ts then some (.tbl #[]) else if b=a then some (.frz { cls:=.type "list",data:=.seq vs.toArray } (.lst (ns.map V.int))) else none) (fun b=>?_) (.inl (.inr ⟨{ cls:=.type "list",data:=.seq vs.toArray },?_⟩)) (fun b hb=>if_pos hb) (fun b u z=>?_)
  ·by_cases hb:b∈ts
   ·exact .inr (.inr ⟨hb,if_pos hb⟩)
   ·by_cases hb2:b=a
    ·exact .inr (.inl ⟨hb2,hk,_,(if_neg hb).trans (if_pos hb2)⟩)
    ·exact .inl ((if_neg hb).trans (if_neg hb2))
  ·exact (if_neg naT).trans (if_pos rfl)
  ·by_cases hb:b∈ts
   ·have z':=(if_pos hb).symm.trans z
    cases z'
    exact okT _ b hb
   ·have z:=(if_neg hb).symm.trans z
    by_cases hb2:b=a
    ·have z':=(if_pos hb2).symm.trans z
     cases z'
     subst hb2
     exact ⟨ha,by rw [List.length_map]; exact hl,vs,_,rv,ha⟩
    ·have z':=(if_neg hb2).symm.trans z
     cases z'
theorem walk_ofT {l:PySem.W.OpenLaw}{n k:Nat}{q:Program}{loose:List Str}{XP:(Str->Option Value)->Heap->Prop}{YP:World->Heap->Prop}{d:DefRec}{K:Params->PySem.W.Frag}{CX:World->CXT}{sp:World->Sp}{x:Str}{tabs:List (Addr×Addr)}
  (hn:l.most=some n) (hn2:n<=sizeLine) (hdf:d.params.defaults=[]) (hr:Room k callerA)
  (hY:∀(w:World) (h:Heap),YP w h->(K w.params).In h) (hT:∀(w:World) (h:Heap),YP w h->∀ q∈tabs,h.get? q.2=some (PySem.W.tabObj #[]))
  (hC:∀(w:World) (h:Heap),(K w.params).In h->∀ q∈tabs,PySem.W.CodeHd h q.1 q.2) (hK:∀(w:World),∀ q∈tabs,(K w.params).lookup q.2=none)
  (F:∀(w:World) (mg:Str->Option Value) (fa:Addr) (h:Heap),(K w.params).In h->h.Ns mainGlobals mg->mg d.name=some (.ref fa) ->
   ∃ fd:FuncData,(∀(s:Shared) (u:Value),BindsTo s fd ⟨[u],[]⟩ [(x,u)]) /\
    ∀ base:Heap,(K w.params).In base->base.Ns mainGlobals mg->BMain mg base->FnOk l.prog w (K w.params) mg base (CX w) k fa fd [x] (sp w))
  (hsp:∀(w:World) (H:Hp) (a:Addr) (ns:List Int),ns.length<=n->SqL (K w.params) H a (ns.map V.int)->(∀ q∈tabs,H q.2=some (.tbl #[]))->sp w [.ref a] H (fun v _=>v=.bl true) fun _ _ _=>False)
  (hCX:∀(w:World) (H:Hp) (s:Shared) (e:Value) (s':Shared),CX w [] H s (fun _ _ _=>False) e s'->False) :
  PySem.W.WalkO q loose XP YP l.row.toRowW d [] (fun f vs=>PySem.call f vs):=by
 refine Att.attach_call hn hdf fun w s₀ s₁ mg mb fa o pm cd doc a vs ns G Y ho hd hcd hmg hobj hints hlen hg=>?_
 have KX:=hY w _ Y
 obtain ⟨fd,hb,hF⟩:=F w mg fa _ KX G.T.g hmg
 have tb:∀ P∈tabs.map (·.2),∃ c,(c,P)∈tabs:=fun P hP=>by
  obtain ⟨⟨c,P'⟩,hq,rfl⟩:=List.mem_map.mp hP
  exact ⟨c,hq⟩
 refine law_callT (ts:=tabs.map (·.2)) KX G.T.g G.T.b G.T.builtins G.T.nolimit hg hobj hints (Nat.le_trans hlen hn2) hr (fun P hP=>?_) (fun P hP=>?_) (fun P hP=>?_) ⟨G.T.bmain⟩ hF hb (fun H hS hTs=>hsp w H a ns hlen hS fun q hq=>hTs q.2 (List.mem_map_of_mem hq)) fun H e s'=>hCX w H s₁ e s'
 ·obtain ⟨c,hq⟩:=tb P hP; exact hT w _ Y _ hq
 ·obtain ⟨c,hq⟩:=tb P hP; exact hK w _ hq
 ·obtain ⟨c,hq⟩:=tb P hP
  exact ((hC w _ KX _ hq).tab (hT w _ Y _ hq)).isCodeTable
end L2
namespace L2
open PySem PySem.Spec PyProof.Rows
theorem all_tx (y:Str):y=tx y.length fun i=>y.cps.getD i 0:=by
 obtain ⟨a⟩:=y
 unfold tx
 congr 1
 apply Array.ext
 ·simp [Str.length]
 ·intro i h1 h2
  simp
  rw [Array.getElem?_eq_getElem h1]
  rfl
section
variable {X:Cx}
end
end L2
namespace K63
open PySem L2
open PyProof.Rows (envOfC)
abbrev s_winit:Stmt:=inClass (top 2) 0
abbrev s_cinit:Stmt:=inClass (top 7) 0
abbrev s_sinit:Stmt:=inClass (top 10) 0
structure Xs (K:PySem.W.Frag) (mg:Str->Option Value) (W BC BS fW fC fS:Addr) (gW gC gS:FuncData):Prop where
 mW:mg "WapentakeError" = some (.ref W)
 mC:mg "BadPattern" = some (.ref BC)
 mS:mg "Empty" = some (.ref BS)
 mV:mg "ValueError" = none
 kW:XKl K W
 kC:XKl K BC
 kS:XKl K BS
 sC:XSub K BC W
 sS:XSub K BS W
 aW:XAt K W "__init__" fW
 iC:XMk K BC fC
 iS:XMk K BS fS
 FW:Fun K "__init__" "WapentakeError.__init__" s_winit fW gW
 FC:Fun K "__init__" "BadPattern.__init__" s_cinit fC gC
 FS:Fun K "__init__" "Empty.__init__" s_sinit fS gS
 bW:Binds K gW ["self", "word"] []
 bC:Binds K gC ["self"] []
 bS:Binds K gS ["self"] []
section
variable {P:Program}{w:World}{K:PySem.W.Frag}{mg:Str->Option Value}{base:Heap}{C fi fa ft fy fm fc:Addr}{gi ga gt gy gm gc:FuncData}{W BC BS fW fC fS:Addr}{gW gC gS:FuncData}
def spWInit (K:PySem.W.Frag):Sp:=fun vs H Q _=>∃(ea C:Addr) (tb:Value) (ww:Str),vs=[.ref ea,.str ww]/\H ea=some (XO C none tb ea)/\XKl K C/\∀ dx,H dx=none->Q .non (upd (upd H ea (XO C (some dx) tb ea)) dx (.xd [("word",.str ww)]))
theorem sc_winit:FnScope ["self", "word"] ["self", "word"] (defScope s_winit):=⟨rfl,rfl,rfl,by decide +kernel,rfl,by decide +kernel,by decide +kernel⟩
theorem ok_winit (T:Xs K mg W BC BS fW fC fS gW gC gS):FnOk P w K mg base (CXE P w) 1 fW gW ["self", "word"] (spWInit K):=by
 refine T.FW.okN sc_winit (fun vs H Q E h=>?_) (fun cdv A outer s H vs Q E hr h=>?_)
 ·obtain ⟨ea,C,tb,ww,rfl,_⟩:=h
  rfl
 ·obtain ⟨ea,C,tb,ww,rfl,e1,XC,k⟩:=h
  refine ⟨_,pss_cons (ps_expr (pe_vinit (by rfl) T.mV (pa_cons (pv 0) (pa_cons (pv 1) pa_nil)))) (pss_one (ps_xfld (pv 0) (pv 1))),?_⟩
  exact ⟨_,rfl,_,rfl,ea,C,none,tb,_,rfl,e1,XC,_,rfl,_,rfl,ea,C,tb,rfl,e1,XC,XC.nw,fun dx hd=>k dx hd⟩
def spInit (C:Addr) (ww:Str):Sp:=fun vs H Q _=>∃(ea:Addr) (tb:Value),vs=[.ref ea]/\H ea=some (XO C none tb ea)/\∀ dx,H dx=none->Q .non (upd (upd H ea (XO C (some dx) tb ea)) dx (.xd [("word",.str ww)]))
theorem sc_cinit:FnScope ["self"] ["self"] (defScope s_cinit):=⟨rfl,rfl,rfl,by decide +kernel,rfl,by decide +kernel,by decide +kernel⟩
theorem ok_cinit (T:Xs K mg W BC BS fW fC fS gW gC gS):FnOk P w K mg base (CXE P w) 2 fC gC ["self"] (spInit BC "bad pattern"):=by
 refine T.FC.okN sc_cinit (fun vs H Q E h=>?_) (fun cdv A outer s H vs Q E hr h=>?_)
 ·obtain ⟨ea,tb,rfl,_⟩:=h
  rfl
 ·obtain ⟨ea,tb,rfl,e1,k⟩:=h
  refine ⟨_,pss_one (ps_expr (pe_cmeth T.aW (ok_winit T) hr (by rfl) T.mW T.bW passN (pa_cons (pv 0) (pa_cons pe_str pa_nil)))),?_⟩
  exact ⟨_,rfl,ea,BC,tb,_,rfl,e1,T.kC,k⟩
theorem sc_sinit:FnScope ["self"] ["self"] (defScope s_sinit):=⟨rfl,rfl,rfl,by decide +kernel,rfl,by decide +kernel,by decide +kernel⟩
theorem ok_sinit (T:Xs K mg W BC BS fW fC fS gW gC gS):FnOk P w K mg base (CXE P w) 2 fS gS ["self"] (spInit BS "empty"):=by
 refine T.FS.okN sc_sinit (fun vs H Q E h=>?_) (fun cdv A outer s H vs Q E hr h=>?_)
 ·obtain ⟨ea,tb,rfl,_⟩:=h
  rfl
 ·obtain ⟨ea,tb,rfl,e1,k⟩:=h
  refine ⟨_,pss_one (ps_expr (pe_cmeth T.aW (ok_winit T) hr (by rfl) T.mW T.bW passN (pa_cons (pv 0) (pa_cons pe_str pa_nil)))),?_⟩
  exact ⟨_,rfl,ea,BS,tb,_,rfl,e1,T.kS,k⟩
def Ref (H:Hp) (E:XK) (C:Addr) (ww:Str):Prop:=∀ dx H0,Same H H0->H0 dx=some (.xd [("word",.str ww)])->E (.ref C) (some dx) H0
theorem Ref.same {H H':Hp}{E:XK}{C:Addr}{ww:Str}(r:Ref H E C ww) (s:Same H H'):Ref H' E C ww:=fun dx H0 s0 e=>r dx H0 (s.trans' s0) e
theorem Ref.out {H:Hp}{E:XK}{C ea dx:Addr}{o u:HO}{ww:Str}(r:Ref H E C ww) (he:H ea=none) (hd:upd H ea o dx=none) :
  E (.ref C) (some dx) fun b=>if b=ea then none else upd (upd (upd H ea o) ea u) dx (.xd [("word",.str ww)]) b:=by
 have ne:dx≠ea:=fun z=>by rw [z,upd_same] at hd; cases hd
 rw [upd_ne ne] at hd
 refine r dx _ (fun b v e=>?_) ?_
 ·rw [if_neg (ne_of_none e he),upd_ne (ne_of_none e hd),upd_ne (ne_of_none e he),upd_ne (ne_of_none e he)]
  exact e
 ·rw [if_neg ne,upd_same]
theorem Ref.raise {C ea:Addr}{H:Hp}{E:XK}{ww:Str}(r:Ref H E C ww) (kC:XKl K C) (he:H ea=none):spInit C ww [.ref ea] (upd H ea (XO C none .none ea)) (fun v H2=>v=.non/\∃ ea' C' dx,V.ref ea=.ref ea'/\H2 ea'=some (XO C' (some dx) .none ea')/\XKl K C'/\E (.ref C') (some dx) (fun b=>if b=ea' then none else H2 b)) E:=by
 refine ⟨ea,.none,rfl,upd_same,fun dx hd=>⟨rfl,ea,C,dx,rfl,?_,kC,r.out he hd⟩⟩
 rw [upd_ne (fun z=>by rw [<- z,upd_same] at hd; cases hd),upd_same]
def inG (g:Str) (a:Nat):Bool:=decide (a∈g.cps.toList)
theorem in_occ (g:Str) (a:Nat):(!(Builtin.Str.occurrences g ⟨#[a]⟩ 0 g.length 1).isEmpty)=inG g a:=by
 rw [PySem.StrLaws.found_one]
 rfl
def spOnlyG:Sp:=fun vs H Q _=>∃(x g:Str),vs=[.str x,.str g]/\x.length<=100/\∀ H',Same H H'->Q (.bl (((List.range x.length).map fun i=>inG g (ch x i)).all id)) H'
theorem ok_onlyG {f:Addr}{fd:FuncData}(D:Df K mg "only_of" s_only Pon f fd) (B:Bt mg):FnOk P w K mg base (CXE P w) 1 f fd Pon spOnlyG:=by
 refine D.F.okN sc_only (fun vs H Q E h=>?_) (fun cdv A outer s H vs Q E hr h=>?_)
 ·obtain ⟨x,g,rfl,_⟩:=h
  rfl
 ·obtain ⟨x,g,rfl,hn,k⟩:=h
  refine ⟨_,pss_one (ps_ret (pe_callB (call_all rfl) (by rfl) B.all (by rfl) (pa_cons
   (pe_comp (N':=["sign", "signs"]) (fm:=[none,some 1]) rfl ⟨rfl,by decide +kernel,by decide +kernel,rfl,rfl,rfl⟩
    (pi_str (pv 0)) (fun _ _ _ _=>pg_name (i:=0) nd_on rfl (Or.inl rfl)) (fun _ _ _ _=>pif_nil)
    (fun _ _ _ _=>pe_cmpR op_in_str (pv 0) (pv 1) (by rfl))) pa_nil))),?_⟩
  refine ⟨_,rfl,_,rfl,fun p hp=>?_⟩
  refine blk_str (fun i σ H2=>∃ u,σ=[u,some (.str g)]/\Same H H2/\H2 p=some (.lst ((List.range i).map fun j=>V.bl (inG g (ch x j))))) ⟨none,rfl,Same.new hp,upd_same⟩ ?_ ?_
  ·rintro i σ H2 hi ⟨u,rfl,s2,e2⟩
   refine turn_all ⟨_,rfl,_,rfl,_,_,rfl,rfl,_,e2,small_rng _ _ (by omega),_,rfl,Same.grow hp s2,?_⟩
   rw [upd_same,<- map_snoc]
   show some (HO.lst (_ ++ [V.bl _]))=_
   rw [show (!(Builtin.Str.occurrences g ⟨#[x.cps.getD i 0]⟩ 0 g.length 1).isEmpty)=inG g (ch x i) from in_occ g _]
  ·rintro σ H2 ⟨u,rfl,s2,e2⟩
   rw [map_bl] at e2
   exact ⟨p,_,rfl,SqL.of e2,k H2 s2⟩
theorem nyd_iff {a:Nat}:a∈(("ny" : Str) ++ ("-" : Str)).cps.toList↔(a=121∨a=110∨a=45):=by
 show a∈[110,121,45]↔_
 simp
 omega
theorem pat_iff {n:Nat}{x:Str}(hl:x.length=n):((List.range x.length).map fun i=>inG (("ny" : Str) ++ ("-" : Str)) (ch x i)).all id=true↔Pat n x:=by
 rw [List.all_eq_true]
 constructor
 ·intro h
  refine ⟨hl,fun i hi=>?_⟩
  exact nyd_iff.mp (of_decide_eq_true (h _ (List.mem_map.mpr ⟨i,List.mem_range.mpr (by omega),rfl⟩)))
 ·rintro h b hb
  obtain ⟨i,hi,rfl⟩:=List.mem_map.mp hb
  exact decide_eq_true (nyd_iff.mpr (h.sgn i (by have:=List.mem_range.mp hi; omega)))
def spIspat:Sp:=fun vs H Q _=>∃(x:Str) (n:Nat),vs=[.str x,.int n]/\x.length<=100/\1<=n/\n<=12/\∀(b:Bool) H',(b=true↔Pat n x)->Same H H'->Q (.bl b) H'
abbrev Pip:List Str:=["pattern", "questions"]
theorem sc_ispat:FnScope Pip Pip (defScope s_ispat):=⟨rfl,rfl,rfl,by decide +kernel,rfl,by decide +kernel,by decide +kernel⟩
theorem ok_ispat {f fc' fo:Addr}{fd gc' go:FuncData}(D:Df K mg "is_pattern" s_ispat Pip f fd) (Dc:Df K mg "check_count" s_ccount ["questions"] fc' gc') (Do:Df K mg "only_of" s_only Pon fo go) (B:Bt mg) (M:Gm mg):FnOk P w K mg base (CXE P w) 2 f fd Pip spIspat:=by
 refine D.F.okN sc_ispat (fun vs H Q E h=>?_) (fun cdv A outer s H vs Q E hr h=>?_)
 ·obtain ⟨x,n,rfl,_⟩:=h
  rfl
 ·obtain ⟨x,n,rfl,hx,n1,n12,k⟩:=h
  obtain ⟨t,mS⟩:=M.signs
  refine ⟨_,pss_cons (ps_expr (pe_fn Dc (ok_ccount Dc M) hr passN (pa_cons (pv 1) pa_nil)))
   (pss_one (ps_ret (pe_and (pe_cmpR op_eq (pe_callB call_len_str (by rfl) B.len PySem.boot_len (pa_cons (pv 0) pa_nil)) (pv 1) (nomark _))
    (pe_one (pe_fn Do (ok_onlyG Do B) hr passN (pa_cons (pv 0) (pa_cons (pe_op op_add_str (pe_glob (v:=.str "ny") (by rfl) mS ⟨t,rfl⟩) pe_str) pa_nil))))))),?_⟩
  refine ⟨_,rfl,n,rfl,n1,n12,_,rfl,_,rfl,len_le hx,_,rfl,rfl,_,rfl,ite2 (fun c=>?_) (fun c=>?_)⟩
  ·have c:decide (V.int (x.length:Nat)=V.int (n:Nat))=true:=c
   rw [dec_int] at c
   have c:((x.length:Nat):Int)=(n:Nat):=by simpa using c
   exact ⟨_,rfl,_,_,rfl,rfl,len_le (show 3<=100 by decide),x,_,rfl,hx,fun H' s'=>k _ H' (pat_iff (by omega)) s'⟩
  ·have c:¬ decide (V.int (x.length:Nat)=V.int (n:Nat))=true:=c
   rw [dec_int] at c
   have c:¬ ((x.length:Nat):Int)=(n:Nat):=by simpa using c
   exact k false H ⟨(fun h=>by cases h),(fun h=>absurd h.len (by omega))⟩ (Same.refl H)
def spCpat (BC:Addr):Sp:=fun vs H Q E=>∃(x:Str) (n:Nat),vs=[.str x,.int n]/\x.length<=100/\1<=n/\n<=12/\((Pat n x/\∀ H',Same H H'->Q .non H')∨(¬ Pat n x/\Ref H E BC "bad pattern"))
theorem sc_cpat:FnScope Pip Pip (defScope s_cpat):=⟨rfl,rfl,rfl,by decide +kernel,rfl,by decide +kernel,by decide +kernel⟩
theorem ok_cpat {f fi':Addr}{fd gi':FuncData}(D:Df K mg "check_pattern" s_cpat Pip f fd) (Di:Df K mg "is_pattern" s_ispat Pip fi' gi') (Gi:FnOk P w K mg base (CXE P w) 2 fi' gi' Pip spIspat) (T:Xs K mg W BC BS fW fC fS gW gC gS):FnOk P w K mg base (CXE P w) 4 f fd Pip (spCpat BC):=by
 refine D.F.okE sc_cpat (fun vs H Q E h=>?_) (fun cdv A outer s H vs Q E hr h=>?_)
 ·obtain ⟨x,n,rfl,_⟩:=h
  rfl
 ·obtain ⟨x,n,rfl,hx,n1,n12,k⟩:=h
  refine ⟨_,pss_one (ps_if (pt_not (pt_val (pe_fn Di Gi (hr.mono (by decide)) passN (pa_cons (pv 0) (pa_cons (pv 1) pa_nil))))) (pss_one (ps_raise rfl passE (pe_xmake0 T.kC T.iC (ok_cinit T) hr (by rfl) T.mC T.bC passE))) pss_nil),?_⟩
  refine ⟨_,rfl,_,rfl,x,n,rfl,hx,n1,n12,fun b H' hb s'=>⟨_,rfl,?_⟩⟩
  rcases k with ⟨hp,k⟩ | ⟨hp,r⟩
  ·rw [hb.mpr hp]
   exact iteF (k H' s')
  ·have:b=false:=by cases b with
    | false=>rfl
    | true=>exact absurd (hb.mp rfl) hp
   subst this
   exact iteT fun ea he=>(r.same s').raise T.kC he
end
end K63
namespace K63
open PySem L2
open PyProof.Rows (envOfC)
theorem stands_of {rs:List Str}{n:Nat}{x:Str}(h:pgM rs 0 (ansG x n)=[]):Stands rs n x:=by
 have go:∀ q r,q < n->r < n->¬ ch x q=45->¬ ch x r=45->q<=r->0 < cntB rs q (ch x q) r (ch x r):=fun q r hq hr nq nr hle=>by
  cases z:cntB rs q (ch x q) r (ch x r) with
  | succ _=>omega
  | zero =>
   exfalso
   have:qk q r∈pgM rs 0 (ansG x n):=by
    refine List.mem_flatMap.mpr ⟨(q,ch x q),?_,List.mem_flatMap.mpr ⟨(r,ch x r),?_,?_⟩⟩
    ·rw [List.take_length]; exact mem_ansG hq nq
    ·rw [List.take_length]; exact mem_ansG hr nr
    ·unfold pgB
     rw [if_pos ⟨hle,z⟩]
     exact List.mem_singleton.mpr rfl
   rw [h] at this
   cases this
 intro q r hq hr nq nr
 by_cases hle:q<=r
 ·exact go q r hq hr nq nr hle
 ·rw [cntB_comm]; exact go r q hr hq nr nq (by omega)
def Nobody (rs:List Str) (n:Nat) (x:Str) (q r:Nat):Prop:=q<=r/\q < n/\r < n/\¬ ch x q=45/\¬ ch x r=45/\cntB rs q (ch x q) r (ch x r)=0
theorem gap_mem {rs:List Str}{n:Nat}{x:Str}{k:List Key}(h:k∈pgM rs 0 (ansG x n)):∃ q r,k=qk q r/\Nobody rs n x q r:=by
 obtain ⟨p,hp,hk⟩:=List.mem_flatMap.mp h
 obtain ⟨p',hp',hk⟩:=List.mem_flatMap.mp hk
 obtain ⟨h1,h2,h5⟩:=ansG_mem (List.mem_of_mem_take hp)
 obtain ⟨h3,h4,h6⟩:=ansG_mem (List.mem_of_mem_take hp')
 unfold pgB at hk
 split at hk
 ·rename_i c
  refine ⟨p.1,p'.1,List.mem_singleton.mp hk,c.1,h1,h3,by rw [<- h2]; exact h5,by rw [<- h4]; exact h6,?_⟩
  rw [<- h2,<- h4]
  exact c.2
 ·cases hk
section
variable {P:Program}{w:World}{K:PySem.W.Frag}{mg:Str->Option Value}{base:Heap}{C fi fa ft fy fm fc:Addr}{gi ga gt gy gm gc:FuncData}{W BC BS fW fC fS:Addr}{gW gC gS:FuncData}
def spCfil (C BS:Addr):Sp:=fun vs H Q E=>∃(t dx kp bt:Addr) (n m:Nat) (rs:List Str),vs=[.ref t]/\TabAt C H t dx kp bt n m rs/\((rs≠[]/\Q .non H)∨(rs=[]/\Ref H E BS "empty"))
theorem sc_cfil:FnScope ["table"] ["table"] (defScope s_cfilled):=⟨rfl,rfl,rfl,by decide +kernel,rfl,by decide +kernel,by decide +kernel⟩
theorem ok_cfil {f:Addr}{fd:FuncData}(D:Df K mg "check_filled" s_cfilled ["table"] f fd) (T:Tb K mg C fi fa ft fy fm fc gi ga gt gy gm gc) (X:Xs K mg W BC BS fW fC fS gW gC gS) (M:Gm mg):FnOk P w K mg base (CXE P w) 4 f fd ["table"] (spCfil C BS):=by
 refine D.F.okE sc_cfil (fun vs H Q E h=>?_) (fun cdv A outer s H vs Q E hr h=>?_)
 ·obtain ⟨t,dx,kp,bt,n,m,rs,rfl,_⟩:=h
  rfl
 ·obtain ⟨t,dx,kp,bt,n,m,rs,rfl,tab,k⟩:=h
  refine ⟨_,pss_one (ps_if (pt_cmpR op_eq (pe_meth0 (pv 0) T.cl T.mm (ok_tmany T M) (hr.mono (by decide)) T.bm .nil passN) pe_int (nomark _)) (pss_one (ps_raise rfl passE (pe_xmake0 X.kS X.iS (ok_sinit X) hr (by rfl) X.mS X.bS passE))) pss_nil),?_⟩
  refine ⟨_,rfl,t,dx,_,rfl,tab.ins,rfl,t,dx,kp,bt,n,m,rs,rfl,tab,rfl,_,rfl,ite2 (fun z=>?_) (fun z=>?_)⟩
  ·have z:decide (V.int (rs.length:Nat)=V.int 0)=true:=z
   rw [dec_int] at z
   have z:((rs.length:Nat):Int)=0:=by simpa using z
   have z:rs=[]:=List.length_eq_zero_iff.mp (by omega)
   rcases k with ⟨h0,_⟩ | ⟨_,r⟩
   ·exact absurd z h0
   ·exact fun ea he=>r.raise X.kS he
  ·have z:¬ decide (V.int (rs.length:Nat)=V.int 0)=true:=z
   rw [dec_int] at z
   have z:¬ ((rs.length:Nat):Int)=0:=by simpa using z
   rcases k with ⟨_,k⟩ | ⟨h0,_⟩
   ·exact k
   ·rw [h0] at z; exact absurd rfl z
end
end K63
namespace K63
open PySem L2
open PyProof.Rows (envOfC)
abbrev s_pattern:Stmt:=top 61
theorem cut_drop (xs:List Int) (n:Nat) (h:xs.length<=1000):cutV (xs.map V.int) (some n) none=(xs.drop n).map V.int:=by
 unfold cutV
 rw [<- List.map_drop,<- List.map_take]
 congr 1
 have e1:HT.sIx (xs.map V.int).length 0 (some (n:Int))=min n xs.length:=by
  rw [List.length_map]
  unfold HT.sIx
  simp only
  split <;> omega
 have e2:HT.sIx (xs.map V.int).length (xs.map V.int).length none=xs.length:=by
  rw [List.length_map]
  rfl
 rw [e1,e2]
 by_cases z:n<=xs.length
 ·rw [Nat.min_eq_left z]
  exact List.take_of_length_le (by rw [List.length_drop]; exact Nat.le_refl _)
 ·rw [Nat.min_eq_right (by omega),List.drop_of_length_le (Nat.le_refl _),List.drop_of_length_le (by omega)]
  simp
theorem pick_mod {L:List Str}(h:0 < L.length) (x:Int):∃ y∈L,atI (L.map V.str) (x % ((L.map V.str).length:Nat))=some (.str y):=by
 rw [List.length_map]
 have b:0<=x % (L.length:Int)/\x % (L.length:Int) < L.length:=⟨Int.emod_nonneg _ (by omega),Int.emod_lt_of_pos _ (by omega)⟩
 obtain ⟨j,hj⟩:∃ j:Nat,(j:Int)=x % (L.length:Int):=⟨(x % (L.length:Int)).toNat,by omega⟩
 have jl:j < L.length:=by omega
 refine ⟨L[j],List.getElem_mem jl,?_⟩
 rw [<- hj]
 refine atI_nat ?_
 rw [List.getElem?_map,List.getElem?_eq_getElem jl]
 rfl
def matB (a m:Nat->Nat) (i:Nat):Bool:=decide (m i=45∨m i=a i)
def matA (a m:Nat->Nat) (n:Nat):Bool:=((List.range n).map (matB a m)).all id
theorem in_two (a m:Nat):inV (s1 m) [.str ("-" : Str),s1 a]=decide (m=45∨m=a):=by
 have e:∀ x y:Nat,eqV (s1 x) (s1 y)=decide (x=y):=fun x y=>by
  rw [Bool.eq_iff_iff,decide_eq_true_iff,<- s1_eq]
  show ((⟨#[x]⟩:Str) == ⟨#[y]⟩)=true↔_
  rw [beq_iff_eq]
  exact ⟨fun h=>congrArg V.str h,fun h=>by injection h⟩
 show (eqV (s1 45) (s1 m) || (eqV (s1 a) (s1 m) || false))=_
 rw [e,e,Bool.or_false,Bool.eq_iff_iff,Bool.or_eq_true,decide_eq_true_iff,decide_eq_true_iff,decide_eq_true_iff]
 exact ⟨fun h=>h.imp Eq.symm Eq.symm,fun h=>h.imp Eq.symm Eq.symm⟩
section
variable {P:Program}{w:World}{K:PySem.W.Frag}{mg:Str->Option Value}{base:Heap}{C fi fa ft fy fm fc:Addr}{gi ga gt gy gm gc:FuncData}
def patC (a:Nat->Nat) (x:Int) (i:Nat):Nat:=if hv 3 x i % 3=0 then a i else 45
def spPattern:Sp:=fun vs H Q _=>∃(a:Nat->Nat) (n:Nat) (x:Int),vs=[.str (tx n a),.int x]/\n<=100/\Q (.str (tx n (patC a x))) H
abbrev Np:List Str:=["_law_row", "_law_number", "_law_found", "_law_k"]
theorem sc_pattern:FnScope Np ["_law_row", "_law_number"] (defScope s_pattern):=⟨rfl,rfl,rfl,by decide +kernel,rfl,by decide +kernel,by decide +kernel⟩
theorem ok_pattern {f:Addr}{fd:FuncData}(D:Df K mg "_law_pattern" s_pattern ["_law_row", "_law_number"] f fd) (B:Bt mg):FnOk P w K mg base (CXE P w) 1 f fd ["_law_row", "_law_number"] spPattern:=by
 refine D.F.okN sc_pattern (fun vs H Q E h=>?_) (fun cdv A outer s H vs Q E hr h=>?_)
 ·obtain ⟨a,n,x,rfl,_⟩:=h
  rfl
 ·obtain ⟨a,n,x,rfl,hn,q⟩:=h
  refine ⟨_,pss_cons (ps_set (i:=2) sc_pattern.nd rfl (Or.inl rfl) pe_str)
   (pss_cons (ps_for PassesOwn.never rfl (pi_range1 (by rfl) B.range (pa_cons (pe_callB call_len_str (by rfl) B.len PySem.boot_len (pa_cons (pv 0) pa_nil)) pa_nil)) (pg_name (i:=3) sc_pattern.nd rfl (Or.inl rfl))
    (pss_cons (ps_set (i:=2) sc_pattern.nd rfl (Or.inl rfl) (pe_op op_add_str (pv 2) (pe_ifExp (pt_cmpR op_ne (pe_op op_mod (pv 1) pe_int) pe_int (nomark _)) pe_str (pe_ix ix_str (pv 0) (pv 3) (fun _ _=>rfl)))))
    (pss_one (ps_set (i:=1) sc_pattern.nd rfl (Or.inl rfl) (pe_op op_fdiv (pv 1) pe_int)))))
   (pss_one (ps_ret (pv 2)))),?_⟩
  refine ⟨_,rfl,_,rfl,small_tx _ _ (by omega),_,rfl,by omega,by rw [tx_len]; omega,?_⟩
  have en:(((tx n a).length:Nat):Int).toNat=n:=by rw [tx_len]; omega
  rw [en]
  refine for_range (fun i σ H2=>∃ v,σ=[some (.str (tx n a)),some (.int (hv 3 x i)),some (.str (tx i (patC a x))),v]/\H2=H) ⟨none,rfl,rfl⟩ ?_ ?_
  ·rintro i σ H2 hi ⟨v,rfl,rfl⟩
   refine ⟨_,rfl,_,rfl,_,_,rfl,rfl,(by show (0:Int) < 3; decide),rfl,_,rfl,?_⟩
   refine ite2 (fun z=>?_) (fun z=>?_)
   ·refine ⟨_,_,rfl,rfl,small_add i _ 45 (by omega),_,rfl,_,_,rfl,rfl,⟨by decide,by decide⟩,some (.int (0 + i)),?_,rfl⟩
    have z:(!decide (V.int (hv 3 x i % 3)=V.int 0))=true:=z
    have e:(45:Nat)=patC a x i:=by
     refine (if_neg fun y=>?_).symm
     rw [y] at z
     exact absurd z (by decide)
    rw [show tx i (patC a x) ++ ("-" : Str)=tx (i + 1) (patC a x) from tx_snoc' e]
    rfl
   ·have ei:(0:Int) + (i:Int)=(i:Int):=Int.zero_add _
    refine ⟨_,rfl,_,rfl,_,_,_,rfl,rfl,small_tx _ _ (by omega),(by rw [ei]; exact tx_at hi),?_⟩
    refine ⟨_,_,rfl,rfl,small_add i _ (a i) (by omega),_,rfl,_,_,rfl,rfl,⟨by decide,by decide⟩,some (.int (0 + i)),?_,rfl⟩
    have e:a i=patC a x i:=by
     refine (if_pos ?_).symm
     have z2:¬ (!decide (V.int (hv 3 x i % 3)=V.int 0))=true:=z
     rw [dec_int] at z2
     simpa using z2
    rw [tx_snoc' e]
    rfl
  ·rintro σ H2 ⟨v,rfl,rfl⟩
   exact ⟨_,rfl,q⟩
def spMat:Sp:=fun vs H Q _=>∃(a m:Nat->Nat) (n:Nat),vs=[.str (tx n a),.str (tx n m)]/\n<=100/\∀ H',Same H H'->Q (.bl (matA a m n)) H'
abbrev Pl:List Str:=["_law_row", "_law_pattern_here"]
theorem sc_lmat:FnScope Pl Pl (defScope s_lmat):=⟨rfl,rfl,rfl,by decide +kernel,rfl,by decide +kernel,by decide +kernel⟩
theorem nd_lm:(["_law_k", "_law_pattern_here", "_law_row"]:List Str).Nodup:=by decide +kernel
theorem ok_lmat {f:Addr}{fd:FuncData}(D:Df K mg "_law_matches" s_lmat Pl f fd) (B:Bt mg):FnOk P w K mg base (CXE P w) 1 f fd Pl spMat:=by
 refine D.F.okN sc_lmat (fun vs H Q E h=>?_) (fun cdv A outer s H vs Q E hr h=>?_)
 ·obtain ⟨a,m,n,rfl,_⟩:=h
  rfl
 ·obtain ⟨a,m,n,rfl,hn,q⟩:=h
  refine ⟨_,pss_one (ps_ret (pe_callB (call_all rfl) (by rfl) B.all (by rfl) (pa_cons
   (pe_comp (N':=["_law_k", "_law_pattern_here", "_law_row"]) (fm:=[none,some 1,some 0]) rfl ⟨rfl,by decide +kernel,by decide +kernel,rfl,rfl,rfl⟩
    (pi_range1 (by rfl) B.range (pa_cons (pe_callB call_len_str (by rfl) B.len PySem.boot_len (pa_cons (pv 1) pa_nil)) pa_nil))
    (fun _ _ _ _=>pg_name (i:=0) nd_lm rfl (Or.inl rfl)) (fun _ _ _ _=>pif_nil)
    (fun _ _ _ _=>pe_cmpR (r:=rIn K false) op_in_seq (pe_ix ix_str (pv 1) (pv 0) (fun _ _=>rfl)) (pe_tup (pa_cons pe_str (pa_cons (pe_ix ix_str (pv 2) (pv 0) (fun _ _=>rfl)) pa_nil))) (by rfl))) pa_nil))),?_⟩
  refine ⟨_,rfl,_,rfl,small_tx _ _ (by omega),_,rfl,by omega,by rw [tx_len]; omega,fun p hp=>?_⟩
  have en:(((tx n m).length:Nat):Int).toNat=n:=by rw [tx_len]; omega
  rw [en]
  refine blk_range (fun i σ H2=>∃ v,σ=[v,some (.str (tx n m)),some (.str (tx n a))]/\Same H H2/\H2 p=some (.lst ((List.range i).map fun j=>V.bl (matB a m j)))) ⟨none,rfl,Same.new hp,upd_same⟩ ?_ ?_
  ·rintro i σ H2 hi ⟨v,rfl,s2,e2⟩
   have ei:(0:Int) + (i:Int)=(i:Int):=Int.zero_add _
   have at':∀ a:Nat->Nat,atI (tx n a).cps.toList (0 + (i:Int))=some (a i):=fun a=>by rw [ei]; exact tx_at hi
   refine turn_all ⟨_,rfl,_,rfl,_,_,_,rfl,rfl,small_tx _ _ (by omega),at' m,_,rfl,_,rfl,_,_,_,rfl,rfl,small_tx _ _ (by omega),at' a,Nat.le_trans (show 2<=2 from Nat.le_refl 2) (by decide),fun T hT=>?_⟩
   have e3:upd H2 T (.tup [.str ("-" : Str),s1 (a i)]) p=some (.lst ((List.range i).map fun j=>V.bl (matB a m j))):=Same.new hT p _ e2
   have s3:Same H (upd H2 T (.tup [.str ("-" : Str),s1 (a i)])):=s2.trans' (Same.new hT)
   refine ⟨T,_,rfl,.inr (.inl (.inl upd_same)),rfl,rfl,_,e3,small_rng _ _ (by omega),_,rfl,Same.grow hp s3,?_⟩
   rw [upd_same,<- map_snoc]
   show some (HO.lst (_ ++ [V.bl (inV (s1 (m i)) [.str ("-" : Str),s1 (a i)])]))=_
   rw [in_two]
   rfl
  ·rintro σ H2 ⟨v,rfl,s2,e2⟩
   rw [map_bl] at e2
   exact ⟨p,_,rfl,SqL.of e2,q H2 s2⟩
theorem TabAt.perm {C:Addr}{H:Hp}{t dx kp bt:Addr}{n m:Nat}{rs rs':List Str}(h:TabAt C H t dx kp bt n m rs) (p:rs.Perm rs'):TabAt C H t dx kp bt n m rs':=by
 obtain ⟨i,c,bvs,e1,e2,hK,hB,r⟩:=h
 exact ⟨i,c,bvs,e1,e2,hK.perm p,hB.perm p,r⟩
end
end K63
namespace L2
open PySem PySem.Spec
section
variable {prog:Program}{w:World}{A:Around}{E:Value->Shared->Prop}{s:Shared}
theorem iter_dict {d:Addr}{o:Obj}{es:Array DictEntry}{ep:Nat}{Q:Value->Shared->Prop}(hd:(d == sysModules)=false) (ho:s.heap.get? d=some o) (hx:o.ExactDict) (hdat:o.data=.dict es ep)
  (hQ:Q (.ref s.heap.objs.size) { s with heap:=s.heap.push { cls:=.type "dict_keyiterator",data:=.fields #[.ref d,.int 0 0,.int es.size 0,.int ep 0] } }) :
  wpAny (model prog w) A (pyIter (.ref d)) Q E s:=by
 have hT:s.TypeIs (.ref d) "dict" := ⟨o,ho,hx.1⟩
 refine wpAny_pyIter_slot hT F.slot_dict_iter (wpAny_call_entry F.slot_dict_iter hT F.entry_dict_iter ?_ (F.args_dict_iter_1 _))
 unfold Builtin.«dict.__iter__» Builtin.Dict.dictSlotNone
 refine wpAny_bind (wpAny_bind (wpAny_notOrdered_dict hT (wpAny_pure ?_)))
 show wpAny _ _ (Builtin.Dict.showsAll d >>= _) _ _ s
 unfold Builtin.Dict.showsAll
 rw [if_neg (by rw [hd]; exact Bool.false_ne_true)]
 refine wpAny_bind (wpAny_pure (wpAny_bind (wpAny_dictEntries ho hdat (wpAny_bind (wpAny_dictEpoch ho hdat ?_)))))
 exact wpAny_bind (wpAny_newObj_type (wpAny_pure ⟨_,rfl, "dict_keyiterator",_,⟨_,Heap.get?_push_size _ rfl,rfl⟩,F.slot_dict_keyiterator_next.lookup,by simpa [rawInt] using hQ⟩))
theorem next_item {it d:Addr}{i ep:Nat}{od:Obj}{es:Array DictEntry}{Q:Option Value->Shared->Prop}(hit:s.heap.IsKeyIter it d i es.size ep) (hod:s.heap.get? d=some od) (hdd:od.data=.dict es ep) (hi:i < es.size)
  (hQ:∀ h',h'.IsKeyIter it d (i + 1) es.size ep->Heap.SameBut it s.heap h'->Q (some es[i].key) { s with heap:=h' }):wpAny (model prog w) A (pyNext (.ref it)) Q E s:=by
 obtain ⟨o,ho,hc,hd⟩:=id hit
 have hit':(s.heap.update it (Obj.mapFields (·.setIfInBounds 1 (rawInt ((i:Int) + 1))))).IsKeyIter it d (i + 1) es.size ep :=
  ⟨_,Heap.get?_update_self _ ho (Obj.isFreed_of_fields (Obj.data_mapFields hd _)),(Obj.cls_mapFields ..).trans hc,by rw [Obj.data_mapFields hd]; simp [rawInt]⟩
 have fin:=hQ _ hit' (Heap.SameBut.update ..)
 unfold pyNext
 refine wpAny_bind (wpAny_attempt (wpAny_callSpecial?_slot (name:=Str.ofString "__next__") hit.typeIs F.slot_dict_keyiterator_next
  (wpAny_call_entry F.slot_dict_keyiterator_next hit.typeIs F.entry_dict_keyiterator_next ?_ (F.args_dict_keyiterator_next_1 _))))
 refine wpAny_bind (wpAny_pure (wpAny_bind (wpAny_bind ?_)))
 first | refine wpAny_bind (wpAny_typeNameOfWhole_keyiter hit.typeIs (wpAny_pure ?_)) | refine wpAny_bind (wpAny_typeNameOf_keyiter hit.typeIs (wpAny_pure ?_))
 refine wpAny_bind (wpAny_fieldsOf ho hd ?_)
 simp only [show Builtin.Dict_items.ownsTuple "dict_keyiterator" = false by decide,Bool.false_eq_true,if_false]
 show wpAny _ _ (if (Value.ref d == Value.none)=true then _ else _) _ _ s
 rw [if_neg (show ¬ ((Value.ref d == Value.none)=true) from Bool.false_ne_true)]
 refine wpAny_bind (wpAny_pure (wpAny_bind (wpAny_dictEntries hod hdd ?_)))
 rw [if_neg (by simp)]
 refine wpAny_bind (wpAny_pure (wpAny_bind (wpAny_dictEpoch hod hdd ?_)))
 rw [if_neg (by simp)]
 refine wpAny_pure ?_
 simp only [show ¬ ((i:Int) < 0) from by omega,if_false,Int.toNat_natCast,Array.getElem?_eq_getElem hi]
 refine wpAny_bind ?_
 first | refine wpAny_bind (wpAny_typeNameOfWhole_keyiter hit.typeIs (wpAny_pure ?_)) | refine wpAny_bind (wpAny_typeNameOf_keyiter hit.typeIs (wpAny_pure ?_))
 refine wpAny_bind (wpAny_isOneOf_keyiter hit.typeIs ?_)
 show wpAny _ _ (setField (.ref it) 1 (rawInt ((i:Int) + 1)) >>= _) _ _ s
 refine wpAny_bind (wpAny_setField ho hd (by simp) (wpAny_bind (wpAny_holding ?_)))
 refine wpAny_bind (wpAny_isOneOf_keyiter (s:={ s with heap:=s.heap.update it (Obj.mapFields (·.setIfInBounds 1 (rawInt ((i:Int) + 1)))) }) hit'.typeIs ?_)
 show wpAny _ _ (pure es[i].key) _ _ _
 exact wpAny_pure (wpAny_pure ⟨_,rfl,wpAny_pure fin⟩)
theorem next_end {it d:Addr}{i ep:Nat}{od:Obj}{es:Array DictEntry}{Q:Option Value->Shared->Prop}(hh:A.handled=none) (hit:s.heap.IsKeyIter it d i es.size ep) (hod:s.heap.get? d=some od) (hdd:od.data=.dict es ep) (hi:es.size<=i)
  (hQ:∀ h',Heap.ExtBut it s.heap h'->Q none { s with heap:=h' }):wpAny (model prog w) A (pyNext (.ref it)) Q E s:=by
 obtain ⟨o,ho,hc,hd⟩:=id hit
 unfold pyNext
 refine wpAny_bind (wpAny_attempt (wpAny_callSpecial?_slot (name:=Str.ofString "__next__") hit.typeIs F.slot_dict_keyiterator_next
  (wpAny_call_entry F.slot_dict_keyiterator_next hit.typeIs F.entry_dict_keyiterator_next ?_ (F.args_dict_keyiterator_next_1 _))))
 refine wpAny_bind (wpAny_pure (wpAny_bind (wpAny_bind ?_)))
 first | refine wpAny_bind (wpAny_typeNameOfWhole_keyiter hit.typeIs (wpAny_pure ?_)) | refine wpAny_bind (wpAny_typeNameOf_keyiter hit.typeIs (wpAny_pure ?_))
 refine wpAny_bind (wpAny_fieldsOf ho hd ?_)
 simp only [show Builtin.Dict_items.ownsTuple "dict_keyiterator" = false by decide,Bool.false_eq_true,if_false]
 show wpAny _ _ (if (Value.ref d == Value.none)=true then _ else _) _ _ s
 rw [if_neg (show ¬ ((Value.ref d == Value.none)=true) from Bool.false_ne_true)]
 refine wpAny_bind (wpAny_pure (wpAny_bind (wpAny_dictEntries hod hdd ?_)))
 rw [if_neg (by simp)]
 refine wpAny_bind (wpAny_pure (wpAny_bind (wpAny_dictEpoch hod hdd ?_)))
 rw [if_neg (by simp)]
 refine wpAny_pure ?_
 simp only [show ¬ ((i:Int) < 0) from by omega,if_false,Int.toNat_natCast,Array.getElem?_eq_none hi]
 refine wpAny_bind ?_
 first | refine wpAny_bind (wpAny_typeNameOfWhole_keyiter hit.typeIs (wpAny_pure ?_)) | refine wpAny_bind (wpAny_typeNameOf_keyiter hit.typeIs (wpAny_pure ?_))
 show wpAny _ _ (setField (.ref it) 0 .none >>= _) _ _ s
 refine wpAny_bind (wpAny_setField ho hd (by simp) ?_)
 show wpAny _ _ (newExc (.type "StopIteration") [] >>= _) _ _ _
 refine wpAny_bind ?_
 simp only [newExc,newTuple]
 refine wpAny_bind (wpAny_newObj_type ?_ (by size_fits))
 refine wpAny_bind (m:=firstArgMember _ _) (wpAny_of_eq (a:=Value.none) (by first | rfl | (simp only [firstArgMember]; rfl)) ?_)
 refine wpAny_newObj_type ?_ (by size_fits)
 simp only [raiseNew]
 refine wpAny_bind (wpAny_handled ?_)
 rw [show A.in1.handled=none from hh]
 refine wpAny_bind (wpAny_pure (wpAny_throw ?_))
 refine wpAny_bind (wpAny_isInstance (T := "StopIteration") (b:=true) ⟨_,Heap.get?_push_size _ rfl,rfl⟩ isSubtype_stop ?_)
 exact wpAny_pure (hQ _ (((Heap.SameBut.update ..).extBut.push _).push _))
end
theorem pd_at {α β:Type}{F:α->β->Prop}{l:List α}{m:List β}(h:Paired F l m):l.length=m.length/\∀{i:Nat}{a:α},l[i]? = some a->∃ b,m[i]? = some b/\F a b:=by
 induction h with
 | nil=>exact ⟨rfl,fun h=>by cases h⟩
 | cons f r ih =>
  refine ⟨by rw [List.length_cons,List.length_cons,ih.1],fun {i a} h=>?_⟩
  cases i with
  | zero=>cases h; exact ⟨_,rfl,f⟩
  | succ i=>exact ih.2 h
def Itd (a:Addr) (o:Obj):It :=
 ⟨fun i H=>∃ kvs,H a=some (.frz o (.dT kvs))/\i < kvs.length,
  fun i H x H'=>H'=H/\∃ b,x=.ref b/\∀ kvs,H a=some (.frz o (.dT kvs))->∃ k v,kvs[i]? = some (k,v)/\H b=some (.tup (k.map kV)),
  fun i H=>∃ kvs,H a=some (.frz o (.dT kvs))/\kvs.length<=i⟩
theorem dict_obj {P:Program}{w:World}{H:Hp}{h:Heap}{a:Addr}{o:Obj}{kvs:List (List Key×V)}(x:ObjOk P w H h a (.frz o (.dT kvs))) :
  (a == sysModules)=false/\h.get? a=some o/\o.ExactDict/\∃ es ep,o.data=.dict es ep/\es.size=kvs.length/\∀(i:Nat) (hi:i < es.size),∃ k v b,kvs[i]? = some (k,v)/\es[i].key=.ref b/\H b=some (.tup (k.map kV)):=by
 obtain ⟨ho,z,y,xs,r,o',es,ep,h1,h2,h3,h4,h5⟩:=x
 rw [ho] at h1
 cases h1
 have l1:=(pd_at r).1
 have sz:es.size=kvs.length:=by rw [l1,<- Array.length_toList,h4,List.length_map]
 refine ⟨y,ho,h2,es,ep,h3,sz,fun i hi=>?_⟩
 have hk:kvs[i]? = some kvs[i]:=List.getElem?_eq_getElem (by omega)
 obtain ⟨q,e1,e2,e3,e4⟩:=(pd_at r).2 hk
 refine ⟨_,_,q.2.1,hk,?_,e3⟩
 have:es.toList[i]? = some (entryOfKey (tupleKind (mixKind P w)) q):=by rw [h4,List.getElem?_map,e1]; rfl
 have h6:es[i]=entryOfKey (tupleKind (mixKind P w)) q:=by
  have h7:es.toList[i]? = some es[i]:=by simp [hi]
  rw [h7] at this
  exact Option.some.inj this
 rw [h6]
 rfl
theorem turn_dict {P:Program}{w:World}{K:PySem.W.Frag}{tg:Expr}(a it:Addr) (o:Obj):Turn P w K tg (Itd a o) [it] it (fun i h=>∃ es ep,o.data=.dict es ep/\h.IsKeyIter it a i es.size ep) where
 mem:=by simp
 obj:=fun i h st b hb=>by
  have e:b=it:=by simpa using hb
  subst e
  obtain ⟨_,_,_,o,e,c,d⟩:=st
  exact ⟨o,e,fun v z=>by rw [d] at z; cases z⟩
 keep:=fun i h h' st k=>let ⟨es,ep,d,st⟩:=st; ⟨es,ep,d,st.at fun o e=>k it (by simp) o e⟩
 item:=by
  intro X hP hw hK hc i pins s σ H E I hf st hg
  subst hP hw hK
  obtain ⟨kvs,e,il⟩:=hg
  obtain ⟨es',ep',d',st⟩:=st
  obtain ⟨_,ho,hx,es,ep,d,sz,at_⟩:=dict_obj (I.hok a _ e)
  rw [d] at d'
  cases d'
  obtain ⟨k,v,b,e1,e2,e3⟩:=at_ i (by omega)
  obtain ⟨f0,f1,f2,f3,f4,f5⟩:=hf it (by simp)
  refine next_item st ho d (by omega) fun h' st' sb=>?_
  have I1:Inv X pins σ H { s with heap:=h' }:=I.turned (t':=s.toks) (fun b o hb e=>(sb.2 b hb).trans e) f0 f1 f3 f4 f5
  obtain ⟨oi,ei,ci,di⟩:=id st'
  refine ⟨_,rfl,go_of (s:={ s with heap:=h' }) ei ci di (by decide) ⟨.ref b,H,I1,e2,⟨rfl,b,rfl,fun kvs' e'=>?_⟩,⟨_,_,d,st'⟩,fun b hb=>(hf b hb).1⟩⟩
  rw [e] at e'
  cases e'
  exact ⟨k,v,e1,e3⟩
 done:=by
  intro X hP hw hK hc i pins s σ H E I hf st hg
  subst hP hw hK
  obtain ⟨kvs,e,il⟩:=hg
  obtain ⟨es',ep',d',st⟩:=st
  obtain ⟨_,ho,hx,es,ep,d,sz,at_⟩:=dict_obj (I.hok a _ e)
  rw [d] at d'
  cases d'
  obtain ⟨f0,f1,f2,f3,f4,f5⟩:=hf it (by simp)
  exact next_end (I.ok.hd hc) st ho d (by omega) fun h' eb=>⟨rfl,I.turned (t':=s.toks) (fun b o hb e=>eb b o hb e) f0 f1 f3 f4 f5⟩
 self:=fun _ _ _ _ _ ⟨_,_,_,st⟩ h=>wpAny_pyIter_keyiter st h
section
variable {X:Cx}{tg:Expr}
theorem Inv.freeze {pins:List (Addr×Obj)}{σ:St}{H:Hp}{s:Shared}{a:Addr}{kvs:List (List Key×V)}(I:Inv X pins σ H s) (e:H a=some (.dT kvs)):∃ o,Inv X pins σ (upd H a (.frz o (.dT kvs))) s:=by
 have x:=I.hok a _ e
 obtain ⟨z,y,xs,r,o,es,ep,h1,h2,h3,h4,h5⟩:=id x
 have mu:Mut (H a):=by rw [e]; trivial
 have ta:∀ b ys,H b=some (.tup ys)->upd H a (.frz o (.dT kvs)) b=some (.tup ys):=fun b ys q=>by rw [upd_ne (fun w=>by rw [w,e] at q; cases q)]; exact q
 have hk:=I.hok.write (x:=a) (e:=a) (o':=.frz o (.dT kvs)) (h':=s.heap) mu (.inl rfl) (fun _ _ _ q=>q) ⟨o,h1⟩ ⟨h1,z,y,xs,Paired.mapP r fun p q z=>⟨z.1,ta _ _ z.2.1,z.2.2⟩,o,es,ep,h1,h2,h3,h4,h5⟩
 exact ⟨o,I.un (t':=s.toks) (Un.write (x:=a) (e:=a) mu (.inl rfl) (fun _ _ _ q=>q) ⟨o,h1⟩) hk⟩
def iDict (te:TE):TI:=fun σ H R=>te σ H fun v H1=>∃ a kvs,v=.ref a/\((H1 a=some (.dT kvs)/\∀ o,R (Itd a o) (upd H1 a (.frz o (.dT kvs))))∨∃ o,H1 a=some (.frz o (.dT kvs))/\R (Itd a o) H1)
theorem pi_dict {l:Expr}{tl:TE}(hl:PE X l tl):PI X tg l (iDict tl):=by
 intro pins s σ H R I h
 refine thn (hl pins s σ H _ I h) fun v s1 ⟨x,H1,I1,r1,q1⟩=>?_
 obtain ⟨a,kvs,e,q⟩:=q1
 subst e
 cases r1
 have fin:∀(H2:Hp) (o:Obj),Inv X pins σ H2 s1->H2 a=some (.frz o (.dT kvs))->R (Itd a o) H2->wpAny (model X.prog X.w) X.A (pyIter (.ref a)) (PIE X pins σ tg R) X.xe s1:=fun H2 o I2 e2 q2=>by
  obtain ⟨y,ho,hx,es,ep,d,sz,_⟩:=dict_obj (I2.hok a _ e2)
  refine iter_dict y ho hx d ?_
  refine ⟨s1.heap.objs.size,[s1.heap.objs.size],_,_,H2,rfl,I2.kept (t':=s1.toks) fun b o e=>Heap.get?_push_of_some _ e,turn_dict a _ o,⟨es,ep,d,_,Heap.get?_push_size _ rfl,rfl,rfl⟩,fun b hb=>?_,q2⟩
  have e:b=s1.heap.objs.size:=by simpa using hb
  subst e
  exact I2.fpOk (Nat.le_refl _) (I2.hok.fresh (Nat.le_refl _))
 rcases q with ⟨e1,q⟩ | ⟨o,e1,q⟩
 ·obtain ⟨o,I2⟩:=I1.freeze e1
  exact fin _ o I2 upd_same (q o)
 ·exact fin _ o I1 e1 q
theorem for_dict {a:Addr}{o:Obj}{kvs:List (List Key×V)}{g:TG}{tb:TS}{D:Ends}{σ:St}{H:Hp}(Pv:Nat->St->Hp->Prop) (h0:Pv 0 σ H) (hl:∀ i σ H,i<=kvs.length->Pv i σ H->H a=some (.frz o (.dT kvs)))
  (hs:∀ i k v b σ H,kvs[i]? = some (k,v)->Pv i σ H->H b=some (.tup (k.map kV))->g (.ref b) σ H fun σ2 H2=>tb { D with nx:=Pv (i + 1),ct:=Pv (i + 1),bk:=D.nx } σ2 H2) (hd:∀ σ H,Pv kvs.length σ H->D.nx σ H) :
  ∃ W:Nat->Nat->St->Hp->Prop,(∃ m,W 0 m σ H)/\∀ i m σ H,W i m σ H ->
   ((Itd a o).stop i H/\D.nx σ H)∨((Itd a o).go i H/\∃ N:St->Hp->Prop,(∀ σ' H',N σ' H'->∃ m',m' < m/\W (i + 1) m' σ' H')/\∀ x H',(Itd a o).yld i H x H'->g x σ H' fun σ2 H2=>tb { D with nx:=N,ct:=N,bk:=D.nx } σ2 H2):=by
 refine ⟨fun i m σ H=>m=kvs.length - i/\i<=kvs.length/\Pv i σ H,⟨kvs.length,by simp,Nat.zero_le _,h0⟩,?_⟩
 rintro i m σ H ⟨rfl,hi,p⟩
 have e:=hl i σ H hi p
 by_cases hlt:i < kvs.length
 ·refine .inr ⟨⟨kvs,e,hlt⟩,Pv (i + 1),fun σ' H' q=>⟨kvs.length - (i + 1),by omega,rfl,by omega,q⟩,?_⟩
  rintro x H' ⟨rfl,b,rfl,f⟩
  obtain ⟨k,v,e1,e2⟩:=f kvs e
  exact hs i k v b σ H' e1 p e2
 ·have z:i=kvs.length:=by omega
  subst z
  exact .inl ⟨⟨kvs,e,Nat.le_refl _⟩,hd σ H p⟩
end
end L2
namespace L2
open PySem PySem.Spec
section
variable {X:Cx}
theorem Inv.thaw {pins:List (Addr×Obj)}{σ:St}{H:Hp}{s:Shared}{a:Addr}{o:Obj}{kvs:List (List Key×V)}(I:Inv X pins σ H s) (e:H a=some (.frz o (.dT kvs))) (h0:X.H₀ a=none):Inv X pins σ (upd H a (.dT kvs)) s:=by
 have ne:∀ b,H b=none->upd H a (.dT kvs) b=none:=fun b n=>by rw [upd_ne (fun w=>by rw [w,e] at n; cases n)]; exact n
 have ta:∀ b ys,H b=some (.tup ys)->upd H a (.dT kvs) b=some (.tup ys):=fun b ys q=>by rw [upd_ne (fun w=>by rw [w,e] at q; cases q)]; exact q
 have to:∀ b c,H b=some (.own c)->upd H a (.dT kvs) b=some (.own c):=fun b ys q=>by rw [upd_ne (fun w=>by rw [w,e] at q; cases q)]; exact q
 refine ⟨I.ok,I.os,I.bare,⟨I.base.keep,I.base.slot,fun b o q n hx=>ne b (I.base.free b o q n hx),I.base.there,fun b xs q=>ta b xs (I.base.tups b xs q),fun b u xs q=>?_,fun b ps q=>?_⟩,I.loc,I.cell,ne _ I.free,fun x c h=>ne _ (I.freeC x c h),fun p hp=>?_,fun b u q=>?_,I.len⟩
 ·rw [upd_ne (fun w=>by rw [w,h0] at q; cases q)]
  exact I.base.frzs b u xs q
 ·obtain ⟨more,q'⟩:=I.base.tbls b ps q
  exact ⟨more,by rw [upd_ne (fun w=>by rw [w,e] at q'; cases q')]; exact q'⟩
 ·obtain ⟨h1,h2,h3⟩:=I.pin p hp
  exact ⟨h1,ne _ h2,h3⟩
 ·by_cases w:b=a
  ·subst w
   rw [upd_same] at q
   cases q
   exact ObjOk.stay (show ObjOk X.prog X.w H s.heap b (.dT kvs) from (I.hok b _ e).2) (fun _ _ _ q=>q) (fun c q=>to c _ q) ta
  ·rw [upd_ne w] at q
   exact (I.hok b u q).stay (fun _ _ _ q=>q) (fun c q=>to c _ q) ta
def tThaw (H₀:Hp) (ts:TS):TS:=fun D σ H=>ts D σ H∨∃ a o kvs,H₀ a=none/\H a=some (.frz o (.dT kvs))/\ts D σ (upd H a (.dT kvs))
theorem ps_thaw {st:Stmt}{ts:TS}(h:PS X st ts):PS X st (tThaw X.H₀ ts):=by
 intro pins s σ H D I q
 rcases q with q | ⟨a,o,kvs,h0,e,q⟩
 ·exact h pins s σ H D I q
 ·exact h pins s σ _ D (I.thaw e h0) q
end
end L2
namespace L2
open PySem PySem.Spec
theorem iDict_mk {H:Hp}{td:Addr}{kvs:List (List Key×V)}{R:It->Hp->Prop}(d:H td=some (.dT kvs)∨∃ o,H td=some (.frz o (.dT kvs)))
  (h:∀ o H',H' td=some (.frz o (.dT kvs))->(∀ b,b≠td->H' b=H b)->R (Itd td o) H'):∃ a kvs',V.ref td=.ref a/\((H a=some (.dT kvs')/\∀ o,R (Itd a o) (upd H a (.frz o (.dT kvs'))))∨∃ o,H a=some (.frz o (.dT kvs'))/\R (Itd a o) H):=by
 refine ⟨td,kvs,rfl,?_⟩
 rcases d with e | ⟨o,e⟩
 ·exact .inl ⟨e,fun o=>h o _ upd_same fun b nb=>upd_ne nb⟩
 ·exact .inr ⟨o,e,h o H e fun _ _=>rfl⟩
theorem tThaw_mk {H₀ H:Hp}{td:Addr}{kvs:List (List Key×V)}{ts:TS}{D:Ends}{σ:St}(h0:H₀ td=none) (d:H td=some (.dT kvs)∨∃ o,H td=some (.frz o (.dT kvs)))
  (h:∀ H',H' td=some (.dT kvs)->(∀ b,b≠td->H' b=H b)->ts D σ H'):tThaw H₀ ts D σ H:=by
 rcases d with e | ⟨o,e⟩
 ·exact .inl (h H e fun _ _=>rfl)
 ·exact .inr ⟨td,o,kvs,h0,e,h _ upd_same fun b nb=>upd_ne nb⟩
theorem put_len {κ:Type} [DecidableEq κ] (kvs:List (κ×V)) (k:κ) (v:V):(putK kvs k v).length<=kvs.length + 1:=by
 unfold putK
 split
 ·rw [List.length_map]; omega
 ·rw [List.length_append]; exact Nat.le_refl _
theorem Same.but {H H1 H2:Hp}{td:Addr}(s:Same H H1) (h0:H td=none) (h:∀ b,b≠td->H2 b=H1 b):Same H H2:=fun b o e=>by
 rw [h b (fun w=>by rw [w,h0] at e; cases e)]
 exact s b o e
theorem Tups.but {H1 H2:Hp}{td:Addr}{rs:List Addr}{ks:List (List Key)}(t:Tups H1 rs ks) (hd:∀ xs,H1 td≠some (.tup xs)) (h:∀ b,b≠td->H2 b=H1 b):Tups H2 rs ks:=⟨t.1,fun i r k a b=>by
 have e:=t.2 i r k a b
 rw [h r (fun w=>by rw [w] at e; exact hd _ e)]
 exact e⟩
end L2
namespace L2
open PySem PySem.Spec
theorem iDictV {i:Nat}{σ:St}{H:Hp}{td:Addr}{kvs:List (List Key×V)}{R:It->Hp->Prop}(hσ:tVar i σ H fun v H1=>v=.ref td/\H1=H) (d:H td=some (.dT kvs)∨∃ o,H td=some (.frz o (.dT kvs)))
  (h:∀ o H',H' td=some (.frz o (.dT kvs))->(∀ b,b≠td->H' b=H b)->R (Itd td o) H'):iDict (tVar i) σ H R:=by
 obtain ⟨v,e,rfl,_⟩:=hσ
 exact ⟨_,e,iDict_mk d h⟩
end L2
namespace L2
open PySem PySem.Spec PyProof.Rows
def Itel (K:PySem.W.Frag) (a:Addr):It :=
 ⟨fun i H=>∃ xs x,SqL K H a xs/\xs[i]? = some x,fun i H v H'=>∃ T x,v=.ref T/\H T=none/\H'=upd H T (.tup [.int i,x])/\∀ xs,SqL K H a xs->xs[i]? = some x,fun i H=>∃ xs,SqL K H a xs/\xs.length<=i⟩
section
variable {P:Program}{w:World}{K:PySem.W.Frag}
def EnSl (e it a:Addr) (i:Nat) (h:Heap):Prop:=(∃ old,IsEnum h e it i old)/\h.IsListIter it a i
theorem turn_enumL {elts:List Expr}{k:Nat}{pos:Pos}(e it a:Addr) (hei:e≠it):Turn P w K (.Tuple elts k pos) (Itel K a) [e,it] e (EnSl e it a) where
 mem:=by simp
 obj:=fun i h st b hb=>by
  obtain ⟨⟨old,he⟩,st⟩:=st
  rcases List.mem_cons.mp hb with rfl | hb
  ·exact ⟨_,he,fun v q=>by cases q⟩
  ·rw [List.mem_singleton.mp hb]
   obtain ⟨o,e,c,d⟩:=st
   exact ⟨o,e,fun v z=>by rw [d] at z; cases z⟩
 keep:=fun i h h' st k=>by
  obtain ⟨⟨old,he⟩,st⟩:=st
  exact ⟨⟨old,k e (by simp) _ he⟩,st.at fun o q=>k it (by simp) o q⟩
 item:=by
  intro X hP hw hK hc i pins s σ H E I hf st hg
  subst hP hw hK
  obtain ⟨xs,x,hq,hx⟩:=hg
  obtain ⟨its,rv,p,hz⟩:=I.list hq
  obtain ⟨u,hu,ru⟩:=rv.get hx
  have nai:a≠it:=fun z=>by
   obtain ⟨o,n,e1,c1,_⟩:=p
   obtain ⟨o2,e2,c2,_⟩:=st.2
   rw [z,e2] at e1
   cases e1
   rw [c2] at c1
   exact absurd c1 (by decide)
  have nea:e≠a:=fun z=>by
   obtain ⟨o,n,e1,c1,_⟩:=p
   obtain ⟨old,e2⟩:=st.1
   rw [<- z,e2] at e1
   cases e1
   exact absurd (show Value.type "enumerate" = Value.type "list" from c1) (by decide)
  have W:=WalksT.enumerateD (A:=X.A) (Draws.list (prog:=X.prog) (w:=X.w) (A:=X.A.in1) (I.ok.hd hc) it a nai its.toArray) e hei (by simp [hei,nea]) (by simp)
  have il:i < its.toArray.size:=by simpa using (List.getElem?_eq_some_iff.mp hu).1
  refine W.item i s _ _ il ⟨st.1,st.2,p.isList⟩ fun T vals h' tk hv hT hq' mid kp=>⟨_,rfl,?_⟩
  refine W.go elts k pos i T { s with heap:=h',toks:=tk } _ _ mid fun h'' st' kp'=>?_
  obtain ⟨t,y,hy,rfl⟩:=hv
  have ey:y=u:=by
   have:its[i]? = some y:=by simpa using hy
   rw [hu] at this
   cases this
   rfl
  subst ey
  have nT:T∉[e,it]:=W.apart i T h' mid
  have hq2:h''.IsTuple T #[Value.int (i:Int) t,y]:=by
   obtain ⟨o,h1,r⟩:=hq'
   exact ⟨o,kp' T o nT h1,r⟩
  have fr:H T=none:=I.hok.fresh hT
  have I1:Inv X pins σ (upd H T (.tup [.int i,x])) { s with heap:=h'',toks:=tk }:=by
   refine I.turnLaid (fp:=[e,it]) hf (fun b o hb q=>kp' b o hb (kp b o hb q)) hT nT ?_
   exact ⟨by show 2<=sizeLine; rw [sizeLine_eq]; omega,_,.cons ⟨t,rfl⟩ (.cons ru .nil),hq2⟩
  refine ⟨.ref T,_,I1,rfl,⟨T,x,rfl,fr,rfl,fun ys hy=>by rw [I.list_inj hy hq]; exact hx⟩,⟨st'.1,st'.2.1⟩,fun b hb=>?_⟩
  have nb:b≠T:=fun q=>nT (q ▸ hb)
  rw [upd_ne nb]
  exact (hf b hb).1
 done:=by
  intro X hP hw hK hc i pins s σ H E I hf st hg
  subst hP hw hK
  obtain ⟨xs,hq,hx⟩:=hg
  obtain ⟨its,rv,p,hz⟩:=I.list hq
  obtain ⟨⟨old,he⟩,st⟩:=st
  have hl:=rv.length
  have hT:s.TypeIs (.ref e) "enumerate" := ⟨_,he,rfl⟩
  unfold pyNext
  refine wpAny_bind (wpAny_attempt (wpAny_callSpecial?_slot (name:=Str.ofString "__next__") hT F.slot_enumerate_next
   (wpAny_call_entry F.slot_enumerate_next hT F.entry_enumerate_next ?_ (F.args_enumerate_next_1 _))))
  show wpAny _ _ (field (.ref e) 2 >>= _) _ _ _
  refine wpAny_bind (wpAny_field he rfl (x:=.ref it) rfl ?_)
  refine wpAny_bind (wpAny_nextOf_list_end (I.ok.hd hc) st p.isList (by simp; omega) fun h' y he' hx'=>?_)
  obtain ⟨o,ho,hcl⟩:=hx'
  refine wpAny_bind (wpAny_isInstance (T := "StopIteration") (b:=true) ⟨o,ho,hcl⟩ isSubtype_stop ?_)
  exact wpAny_pure ⟨rfl,I.turnedL (fp:=[e,it]) (t':=s.toks) hf fun b o hb q=>he' b o (fun z=>hb (by simp [z])) q⟩
 self:=fun A i s Q E st h=>by
  obtain ⟨⟨old,he⟩,_⟩:=st
  exact wpAny_pyIter_enum he h
end
section
variable {X:Cx}
def iEnumL (K:PySem.W.Frag) (ta:TA):TI:=fun σ H R=>ta σ H fun vs H1=>∃ a,vs=[.ref a]/\(∃ xs,SqL K H1 a xs)/\R (Itel K a) H1
theorem pi_enumL {elts:List Expr}{k:Nat}{tp:Pos}{a:Expr}{ta:TA}{p pos:Pos}(hg:Gl X "enumerate") (hm:X.mg "enumerate" = none) (ha:PA X [a] ta) (hs:starEach [a] X.env=[(false,eval a X.env)]:=by rfl) :
  PI X (.Tuple elts k tp) (.Call (.Name "enumerate" p) [a] [] pos) (iEnumL X.K ta):=by
 intro pins s σ H R I h
 refine Call_ (ld_blt I hg hm boot_enumerate (PyProof.Rows.callWith_type1 (thn (ha pos pins s σ H _ I h) fun us s1 ⟨vs,H1,I1,r1,q1⟩=>?_) hs rfl))
 obtain ⟨l,rfl,⟨xs,hq⟩,q⟩:=q1
 obtain ⟨u,rfl,ru⟩:=r1.one
 cases ru
 obtain ⟨its,rv,p',hz⟩:=I1.list hq
 refine call_enumerate_list p'.isList fun h' he st hz kp=>wpAny_pyIter_enum (s:={ s1 with heap:=h' }) he ?_
 refine ⟨_,[s1.heap.objs.size + 1,s1.heap.objs.size],_,_,H1,rfl,I1.kept (t':=s1.toks) kp,turn_enumL _ _ _ (Nat.succ_ne_self _),⟨⟨_,by simpa using he⟩,st⟩,fun b hb=>?_,q⟩
 have hb':s1.heap.objs.size<=b:=by
  simp only [List.mem_cons,List.not_mem_nil,or_false] at hb
  rcases hb with rfl | rfl
  ·exact Nat.le_succ _
  ·exact Nat.le_refl _
 exact I1.fpOk hb' (I1.hok.fresh hb')
end
section
variable {K:PySem.W.Frag}{a:Addr}{xs:List V}
theorem for_enumL {g:TG}{tb:TS}{D:Ends}{σ:St}{H:Hp}(Pv:Nat->St->Hp->Prop) (h0:Pv 0 σ H) (hl:∀ i σ H,i<=xs.length->Pv i σ H->SqL K H a xs)
  (hs:∀ i x T σ H,xs[i]? = some x->H T=none->Pv i σ H->g (.ref T) σ (upd H T (.tup [.int i,x])) fun σ2 H2=>tb { D with nx:=Pv (i + 1),ct:=Pv (i + 1),bk:=D.nx } σ2 H2) (hd:∀ σ H,Pv xs.length σ H->D.nx σ H) :
  ∃ W:Nat->Nat->St->Hp->Prop,(∃ m,W 0 m σ H)/\∀ i m σ H,W i m σ H ->
   ((Itel K a).stop i H/\D.nx σ H)∨((Itel K a).go i H/\∃ N:St->Hp->Prop,(∀ σ' H',N σ' H'->∃ m',m' < m/\W (i + 1) m' σ' H')/\∀ v H',(Itel K a).yld i H v H'->g v σ H' fun σ2 H2=>tb { D with nx:=N,ct:=N,bk:=D.nx } σ2 H2):=by
 refine ⟨fun i m σ H=>m=xs.length - i/\i<=xs.length/\Pv i σ H,⟨xs.length,by simp,Nat.zero_le _,h0⟩,?_⟩
 rintro i m σ H ⟨rfl,hi,p⟩
 have hq:=hl i σ H hi p
 by_cases hlt:i < xs.length
 ·refine .inr ⟨⟨xs,xs[i],hq,List.getElem?_eq_getElem hlt⟩,Pv (i + 1),fun σ' H' p'=>⟨xs.length - (i + 1),by omega,rfl,hlt,p'⟩,fun v H' y=>?_⟩
  obtain ⟨T,x,rfl,hT,rfl,e⟩:=y
  exact hs i x T σ H (e xs hq) hT p
 ·have e:i=xs.length:=by omega
  subst e
  exact .inl ⟨⟨xs,hq,Nat.le_refl _⟩,hd σ H p⟩
end
end L2
namespace L2
open PySem
theorem fmap_congr {α β:Type}{f g:α->Option β}:∀{l:List α},(∀ a∈l,f a=g a)->l.filterMap f=l.filterMap g
 | [],_=>rfl
 | a :: r,h=>by rw [List.filterMap_cons,List.filterMap_cons,h a List.mem_cons_self,fmap_congr fun b hb=>h b (List.mem_cons_of_mem _ hb)]
def opB (rs:List Str) (q:Nat):Bool:=decide (0 < cntB rs q 110 q 110) && decide (0 < cntB rs q 121 q 121)
def akB (rs:List Str) (q r:Nat):Bool:=decide (cntB rs q 110 r 121=0) && decide (cntB rs q 121 r 110=0)
def apB (rs:List Str) (q r:Nat):Bool:=decide (cntB rs q 110 r 110=0) && decide (cntB rs q 121 r 121=0)
def alO (rs:List Str) (q r:Nat):Option Nat:=if akB rs q r=true then some 121 else if apB rs q r=true then some 110 else none
def tgB (rs:List Str) (q r:Nat):Bool:=akB rs q r || apB rs q r
def bunF (rs:List Str) (l r:Nat):Option (Nat×Nat):=(alO rs l r).map fun a=>(r,a)
def bun (rs:List Str) (n l:Nat):List (Nat×Nat):=(List.range n).filterMap (bunF rs l)
def lowB (rs:List Str) (l:Nat):Bool:=opB rs l && (List.range l).all fun q=>!tgB rs q l
def lows (rs:List Str) (n:Nat):List Nat:=(List.range n).filter (lowB rs)
def bnl (rs:List Str) (n:Nat):List (List (Nat×Nat)):=(lows rs n).map (bun rs n)
theorem cnt_zero {rs:List Str}{q a r b:Nat}:cntB rs q a r b=0↔∀ x∈rs,¬ (ch x q=a/\ch x r=b):=by
 constructor
 ·intro h x hx e
  have:=cnt_pos.mpr ⟨x,hx,e⟩
  omega
 ·intro h
  refine Nat.eq_zero_of_not_pos fun w=>?_
  obtain ⟨x,hx,e⟩:=cnt_pos.mp w
  exact h x hx e
section
variable {rs:List Str}{n:Nat}(hrs:∀ x∈rs,Row n x)
include hrs
theorem ak_iff {q r:Nat}(hq:q < n) (hr:r < n):akB rs q r=true↔∀ x∈rs,ch x q=ch x r:=by
 unfold akB
 rw [Bool.and_eq_true,decide_eq_true_iff,decide_eq_true_iff,cnt_zero,cnt_zero]
 constructor
 ·rintro ⟨h1,h2⟩ x hx
  have b1:=(hrs x hx).bin q hq
  have b2:=(hrs x hx).bin r hr
  have h1:=h1 x hx
  have h2:=h2 x hx
  omega
 ·intro h
  refine ⟨fun x hx e=>?_,fun x hx e=>?_⟩ <;> have:=h x hx <;> omega
theorem ap_iff {q r:Nat}(hq:q < n) (hr:r < n):apB rs q r=true↔∀ x∈rs,¬ ch x q=ch x r:=by
 unfold apB
 rw [Bool.and_eq_true,decide_eq_true_iff,decide_eq_true_iff,cnt_zero,cnt_zero]
 constructor
 ·rintro ⟨h1,h2⟩ x hx
  have b1:=(hrs x hx).bin q hq
  have b2:=(hrs x hx).bin r hr
  have h1:=h1 x hx
  have h2:=h2 x hx
  omega
 ·intro h
  refine ⟨fun x hx e=>?_,fun x hx e=>?_⟩ <;> have:=h x hx <;> omega
theorem tg_iff {q r:Nat}(hq:q < n) (hr:r < n):tgB rs q r=true↔(∀ x∈rs,ch x q=ch x r)∨∀ x∈rs,¬ ch x q=ch x r:=by
 unfold tgB
 rw [Bool.or_eq_true,ak_iff hrs hq hr,ap_iff hrs hq hr]
theorem tg_refl {q:Nat}(hq:q < n):tgB rs q q=true:=(tg_iff hrs hq hq).mpr (.inl fun _ _=>rfl)
theorem tg_symm {q r:Nat}(hq:q < n) (hr:r < n) (h:tgB rs q r=true):tgB rs r q=true:=by
 rw [tg_iff hrs hr hq]
 rcases (tg_iff hrs hq hr).mp h with h | h
 ·exact .inl fun x hx=>(h x hx).symm
 ·exact .inr fun x hx e=>h x hx e.symm
theorem tg_trans {q r s:Nat}(hq:q < n) (hr:r < n) (hs:s < n) (h:tgB rs q r=true) (h':tgB rs r s=true):tgB rs q s=true:=by
 rw [tg_iff hrs hq hs]
 rcases (tg_iff hrs hq hr).mp h with h | h <;> rcases (tg_iff hrs hr hs).mp h' with h' | h'
 ·exact .inl fun x hx=>(h x hx).trans (h' x hx)
 ·exact .inr fun x hx e=>h' x hx ((h x hx).symm.trans e)
 ·exact .inr fun x hx e=>h x hx (e.trans (h' x hx).symm)
 ·refine .inl fun x hx=>?_
  have b1:=(hrs x hx).bin q hq
  have b2:=(hrs x hx).bin r hr
  have b3:=(hrs x hx).bin s hs
  have h1:=h x hx
  have h2:=h' x hx
  omega
omit hrs in
theorem op_iff {q:Nat}:opB rs q=true↔(∃ x∈rs,ch x q=110)/\∃ x∈rs,ch x q=121:=by
 unfold opB
 rw [Bool.and_eq_true,decide_eq_true_iff,decide_eq_true_iff,cnt_pos,cnt_pos]
 constructor
 ·rintro ⟨⟨x,hx,e,_⟩,y,hy,e',_⟩
  exact ⟨⟨x,hx,e⟩,y,hy,e'⟩
 ·rintro ⟨⟨x,hx,e⟩,y,hy,e'⟩
  exact ⟨⟨x,hx,e,e⟩,y,hy,e',e'⟩
theorem tg_open {q r:Nat}(hq:q < n) (hr:r < n) (h:tgB rs q r=true) (ho:opB rs q=true):opB rs r=true:=by
 obtain ⟨⟨x,hx,e⟩,y,hy,e'⟩:=op_iff.mp ho
 have bx:=(hrs x hx).bin r hr
 have bY:=(hrs y hy).bin r hr
 rw [op_iff]
 rcases (tg_iff hrs hq hr).mp h with h | h
 ·have h1:=h x hx
  have h2:=h y hy
  exact ⟨⟨x,hx,by omega⟩,y,hy,by omega⟩
 ·have h1:=h x hx
  have h2:=h y hy
  exact ⟨⟨y,hy,by omega⟩,x,hx,by omega⟩
omit hrs in
theorem alO_none {q r:Nat}:alO rs q r=none↔tgB rs q r=false:=by
 unfold alO tgB
 cases akB rs q r <;> cases apB rs q r <;> simp
omit hrs in
theorem low_iff {l:Nat}:lowB rs l=true↔opB rs l=true/\∀ q,q < l->tgB rs q l=false:=by
 unfold lowB
 rw [Bool.and_eq_true,List.all_eq_true]
 constructor
 ·rintro ⟨h1,h2⟩
  exact ⟨h1,fun q hq=>by simpa using h2 q (List.mem_range.mpr hq)⟩
 ·rintro ⟨h1,h2⟩
  exact ⟨h1,fun q hq=>by simpa using h2 q (List.mem_range.mp hq)⟩
def leftL (rs:List Str) (n k:Nat):List Nat:=(List.range n).filter fun r=>opB rs r && (List.range k).all fun l=>!tgB rs l r
omit hrs in
theorem left_mem {k r:Nat}:r∈leftL rs n k↔r < n/\opB rs r=true/\∀ l,l < k->tgB rs l r=false:=by
 unfold leftL
 rw [List.mem_filter,List.mem_range,Bool.and_eq_true,List.all_eq_true]
 constructor
 ·rintro ⟨h0,h1,h2⟩
  exact ⟨h0,h1,fun q hq=>by simpa using h2 q (List.mem_range.mpr hq)⟩
 ·rintro ⟨h0,h1,h2⟩
  exact ⟨h0,h1,fun q hq=>by simpa using h2 q (List.mem_range.mp hq)⟩
omit hrs in
theorem left_sorted (k:Nat):(leftL rs n k).Pairwise (· < ·):=List.Pairwise.filter _ List.pairwise_lt_range
omit hrs in
theorem lows_len (rs:List Str) (n:Nat):(lows rs n).length<=n:=by
 have:=List.length_filter_le (lowB rs) (List.range n)
 rw [List.length_range] at this
 exact this
omit hrs in
theorem lows_succ (rs:List Str) (n:Nat):lows rs (n + 1)=lows rs n ++ (if lowB rs n=true then [n] else []):=by
 unfold lows
 rw [List.range_succ,List.filter_append]
 congr 1
 cases h:lowB rs n <;> simp [h]
omit hrs in
theorem lows_stay {k:Nat}:∀{m:Nat},k<=m->(∀ q,k<=q->q < m->lowB rs q=false)->lows rs m=lows rs k:=by
 intro m
 induction m with
 | zero =>
  intro h _
  have e:k=0:=by omega
  rw [e]
 | succ m ih =>
  intro h f
  by_cases e:k=m + 1
  ·rw [e]
  ·rw [lows_succ,f m (by omega) (by omega),ih (by omega) fun q a b=>f q a (by omega)]
   simp
theorem left_low {k q:Nat}(hq:q < n) (kq:k<=q) (h:lowB rs q=true):q∈leftL rs n k:=by
 obtain ⟨h1,h2⟩:=low_iff.mp h
 exact left_mem.mpr ⟨hq,h1,fun l hl=>h2 l (by omega)⟩
theorem left_done {k:Nat}(hk:k<=n) (h:leftL rs n k=[]):lows rs n=lows rs k:=by
 refine lows_stay hk fun q a b=>Bool.eq_false_iff.mpr fun w=>?_
 have:=left_low hrs b a w
 rw [h] at this
 cases this
theorem left_head {k low:Nat}{rest:List Nat}(hk:k<=n) (h:leftL rs n k=low :: rest) :
  low < n/\k<=low/\lowB rs low=true/\lows rs (low + 1)=lows rs k ++ [low]/\(leftL rs n k).filter (fun q=>!akB rs low q && !apB rs low q)=leftL rs n (low + 1) /\
  (leftL rs n k).filterMap (bunF rs low)=bun rs n low:=by
 have hm:low∈leftL rs n k:=by rw [h]; exact List.mem_cons_self
 obtain ⟨ln,lo,lf⟩:=left_mem.mp hm
 have least:∀ q,q∈leftL rs n k->low<=q:=fun q hq=>by
  have s:=left_sorted (rs:=rs) (n:=n) k
  rw [h] at s hq
  rcases List.mem_cons.mp hq with e | hq
  ·omega
  ·exact Nat.le_of_lt ((List.pairwise_cons.mp s).1 q hq)
 have kl:k<=low:=by
  refine Nat.le_of_not_lt fun w=>?_
  have:=lf low w
  rw [tg_refl hrs ln] at this
  cases this
 have up:∀ q,q < n->opB rs q=true->q < low->∃ l,l < k/\tgB rs l q=true:=fun q hq ho ql=>by
  refine Classical.byContradiction fun w=>?_
  have:=least q (left_mem.mpr ⟨hq,ho,fun l hl=>Bool.eq_false_iff.mpr fun z=>w ⟨l,hl,z⟩⟩)
  omega
 have ll:lowB rs low=true:=by
  refine low_iff.mpr ⟨lo,fun q hq=>Bool.eq_false_iff.mpr fun w=>?_⟩
  have qn:q < n:=by omega
  obtain ⟨l,l1,l2⟩:=up q qn (tg_open hrs ln qn (tg_symm hrs qn ln w) lo) hq
  have:=lf l l1
  rw [tg_trans hrs (by omega) qn ln l2 w] at this
  cases this
 refine ⟨ln,kl,ll,?_,?_,?_⟩
 ·rw [lows_succ,ll,if_pos rfl,lows_stay kl fun q a b=>Bool.eq_false_iff.mpr fun w=>?_]
  have:=least q (left_low hrs (by omega) a w)
  omega
 ·unfold leftL
  rw [List.filter_filter]
  refine List.filter_congr fun r hr=>?_
  have rn:=List.mem_range.mp hr
  rw [Bool.eq_iff_iff]
  have e:(!akB rs low r && !apB rs low r) = !tgB rs low r:=by unfold tgB; cases akB rs low r <;> cases apB rs low r <;> rfl
  rw [e,Bool.and_eq_true,Bool.and_eq_true,Bool.and_eq_true,List.all_eq_true,List.all_eq_true]
  constructor
  ·rintro ⟨h1,h2,h3⟩
   refine ⟨h2,fun l hl=>?_⟩
   have hl:=List.mem_range.mp hl
   by_cases e1:l < k
   ·exact h3 l (List.mem_range.mpr e1)
   by_cases e2:l=low
   ·rw [e2]; exact h1
   have lN:l < n:=by omega
   cases z:tgB rs l r with
   | false=>rfl
   | true =>
    obtain ⟨l',a,b⟩:=up l lN (tg_open hrs rn lN (tg_symm hrs lN rn z) h2) (by omega)
    have:=h3 l' (List.mem_range.mpr a)
    rw [tg_trans hrs (by omega) lN rn b z] at this
    cases this
  ·rintro ⟨h1,h2⟩
   exact ⟨h2 low (List.mem_range.mpr (Nat.lt_succ_self _)),h1,fun l hl=>h2 l (List.mem_range.mpr (by have:=List.mem_range.mp hl; omega))⟩
 ·unfold leftL bun
  rw [List.filterMap_filter]
  refine fmap_congr fun r hr=>?_
  have rn:=List.mem_range.mp hr
  cases z:(opB rs r && (List.range k).all fun l=>!tgB rs l r) with
  | true=>rfl
  | false =>
   show none=bunF rs low r
   unfold bunF
   cases t:alO rs low r with
   | none=>rfl
   | some a =>
    exfalso
    have tg:tgB rs low r=true:=by
     cases y:tgB rs low r with
     | true=>rfl
     | false=>rw [alO_none.mpr y] at t; cases t
    have ro:=tg_open hrs ln rn tg lo
    rw [ro,Bool.true_and,Bool.eq_false_iff] at z
    refine z (List.all_eq_true.mpr fun l hl=>?_)
    have hl:=List.mem_range.mp hl
    cases y:tgB rs l r with
    | false=>rfl
    | true =>
     have:=lf l hl
     rw [tg_trans hrs (by omega) rn ln y (tg_symm hrs ln rn tg)] at this
     cases this
theorem ak_refl {q:Nat}(hq:q < n):akB rs q q=true:=(ak_iff hrs hq hq).mpr fun _ _=>rfl
theorem bun_from {l:Nat}(hl:l < n) (h:lowB rs l=true):bun rs n l=(List.range (n - l)).filterMap fun d=>bunF rs l (l + d):=by
 unfold bun
 have e:List.range n=List.range l ++ (List.range (n - l)).map (l + ·):=by rw [<- List.range_add]; congr 1; omega
 rw [e,List.filterMap_append,List.filterMap_map]
 have z:(List.range l).filterMap (bunF rs l)=[]:=by
  refine List.filterMap_eq_nil_iff.mpr fun r hr=>?_
  have rl:=List.mem_range.mp hr
  unfold bunF
  have t:tgB rs l r=false:=Bool.eq_false_iff.mpr fun w=>by
   have:=(low_iff.mp h).2 r rl
   rw [tg_symm hrs hl (by omega) w] at this
   cases this
  rw [alO_none.mpr t]
  rfl
 rw [z,List.nil_append]
 rfl
theorem bun_head {l:Nat}(hl:l < n) (h:lowB rs l=true):∃ tl,bun rs n l=(l,121) :: tl:=by
 rw [bun_from hrs hl h]
 have e:List.range (n - l)=0 :: (List.range (n - l - 1)).map Nat.succ:=by
  rw [show n - l=(n - l - 1) + 1 by omega,List.range_succ_eq_map]
  rfl
 rw [e,List.filterMap_cons]
 have:bunF rs l (l + 0)=some (l,121):=by
  unfold bunF alO
  rw [Nat.add_zero,if_pos (ak_refl hrs hl)]
  rfl
 rw [this]
 exact ⟨_,rfl⟩
end
end L2
namespace L2
open PySem PySem.Spec PyProof.Rows
def sCompN (fm:List (Option Nat)) (wi:TI) (g:TG) (tt:TT) (tb:Addr->TBd) (i:Nat):TS:=fun D σ H=>wi σ H fun J H1=>∀ p,H1 p=none ->
 tLoop J g tt (tb p) (seeσ fm σ) (upd H1 p (.lst [])) fun _ H2=>D.nx (σ.set i (some (.ref p))) H2
section
variable {X:Cx}{elt iter tg:Expr}{ifs:List Expr}{rest:List Comprehension}{scope:Scope}{pos:Pos}{N':List Str}{fm:List (Option Nat)}{wi:TI}{g:TG}{tt:TT}{tb:Addr->TBd}
theorem ps_compN {i:Nat}{x:Str}{px spos:Pos}(hc:X.calm=true) (hN:X.N.Nodup) (hx:X.N[i]? = some x) (hl:X.env.kindOf x=some .local) (S:CompSc X scope N' fm) (hi:PI X tg iter wi) (hg:∀ s H C fp,PG (cxC X scope N' s H C fp) tg g) (ht:∀ s H C fp,PIfs (cxC X scope N' s H C fp) ifs tt)
  (hb:∀ s H C fp p,PB (cxC X scope N' s H C fp) (actAt elt (⟨tg,iter,ifs,0⟩ :: rest) scope pos 0 (.ref p) (cxC X scope N' s H C fp).env) (tb p))
  (h3:∀ g,rest[0]? = some g->g.is_async=0:=by intro g h; first | (cases h; rfl) | cases h)
  (hs:∀ x,foldedSetIterable iter X.env x=pure x:=by intro _; rfl)
  (hsw:swapsWith (.ListComp elt (⟨tg,iter,ifs,0⟩ :: rest) scope pos) (some (.Name x px)) spos.line X.env=pure true:=by rfl) :
  PS X (.Assign [.Name x px] (.ListComp elt (⟨tg,iter,ifs,0⟩ :: rest) scope pos) spos) (sCompN fm wi g tt tb i):=by
 intro pins s σ H D I h
 rw [exec_Assign_Name_used _ _ _ _ hsw]
 refine wpAny_bind (wpAny_standAt (wpAny_bind ?_))
 show wpAny _ _ (comprehension (.ListComp elt (⟨tg,iter,ifs,0⟩ :: rest) scope pos) scope X.env _ (newList []) false (eval iter X.env) (some (assign (.Name x px) X.env)) >>= _) _ _ s
 refine wpAny_bind (thn (wpAny_comprehension_free (use:=some (assign (.Name x px) X.env)) (Q:=fun _ s'=>SP X pins D .next s') rfl hs (closure_run (S.cells I)) S.kind S.names
  (thn (hi pins s σ H _ I h) fun v s1 h1=>thn h1 fun itv s2 h2=>?_)) fun _ s' q=>wpAny_pure (wpAny_pure q))
 obtain ⟨it,fp,tn,J,H2,e,I2,T,st2,f2,blk⟩:=h2
 subst e
 refine comp_blockN (RR:=fun acc C=>compPost (model X.prog X.w) X.A X.xe (some (assign (.Name x px) X.env)) (fun _ s'=>SP X pins D .next s') acc C) (Q:=fun p H'=>D.nx (σ.set i (some (.ref p))) H') hc S hg ht hb (fun it acc env=>turn_gen (cl:=⟨tg,iter,ifs,0⟩) (gens:=⟨tg,iter,ifs,0⟩ :: rest) (d:=0) rfl rfl (fun g h=>h3 g (by simpa using h)) it acc env) T I2 st2 f2 blk ?_
 intro p C H' s' m hm back fC q I'
 obtain ⟨f0,f1,f2,f3,f4,f5⟩:=fC
 show wpAny _ _ (assign (.Name x px) X.env (.ref p)) _ _ s'
 refine wpAny_assign_Name (store_ok2 I' hN hx (.inl hl) (v:=.ref p) rfl (fun s'' I'' ⟨a,sb,ha⟩=>?_) (.inr hl))
 have haC:C≠a:=by
  rcases ha with z | z
  ·rw [z]; exact f1
  ·exact Ne.symm (f4 x a z)
 refine ⟨m,hm.sameBut sb haC,fun h3 sb3=>⟨σ.set i (some (.ref p)),H',I''.turned (t':=s''.toks) (fun b o hb e=>(sb3.2 b hb).trans e) f0 f1 f3 f4 f5,q⟩⟩
end
end L2
namespace L2
open PySem
def qL:Str := "law" ++ ".<locals>." ++ "<lambda>"
theorem TabOk.ne {H:Hp}{Pt b:Addr}{o:HO}(t:TabOk H Pt qL) (e:H b=some o) (n:∀ ps,o≠.tbl ps):b≠Pt:=fun z=>by
 obtain ⟨ps,hp,_⟩:=t.ex
 rw [z,hp] at e; cases e; exact n _ rfl
theorem keepP {H H':Hp}{Pt b:Addr}{o:HO}(t:TabOk H Pt qL) (s:SameP Pt H H') (e:H b=some o) (n:∀ ps,o≠.tbl ps):H' b=some o:=s _ _ (TabOk.ne t e n) e
theorem cut_drop (xs:List Int) (n:Nat) (h:xs.length<=1000):cutV (xs.map V.int) (some n) none=(xs.drop n).map V.int:=by
 unfold cutV
 rw [<- List.map_drop,<- List.map_take]
 congr 1
 have e1:HT.sIx (xs.map V.int).length 0 (some (n:Int))=min n xs.length:=by
  rw [List.length_map]
  unfold HT.sIx
  simp only
  split <;> omega
 have e2:HT.sIx (xs.map V.int).length (xs.map V.int).length none=xs.length:=by
  rw [List.length_map]
  rfl
 rw [e1,e2]
 by_cases z:n<=xs.length
 ·rw [Nat.min_eq_left z]
  exact List.take_of_length_le (by rw [List.length_drop]; exact Nat.le_refl _)
 ·rw [Nat.min_eq_right (by omega),List.drop_of_length_le (Nat.le_refl _),List.drop_of_length_le (by omega)]
  simp
theorem pick_mod {L:List Str}(h:0 < L.length) (x:Int):∃ y∈L,atI (L.map V.str) (x % ((L.map V.str).length:Nat))=some (.str y):=by
 rw [List.length_map]
 have b:0<=x % (L.length:Int)/\x % (L.length:Int) < L.length:=⟨Int.emod_nonneg _ (by omega),Int.emod_lt_of_pos _ (by omega)⟩
 obtain ⟨j,hj⟩:∃ j:Nat,(j:Int)=x % (L.length:Int):=⟨(x % (L.length:Int)).toNat,by omega⟩
 have jl:j < L.length:=by omega
 refine ⟨L[j],List.getElem_mem jl,?_⟩
 rw [<- hj]
 refine atI_nat ?_
 rw [List.getElem?_map,List.getElem?_eq_getElem jl]
 rfl
theorem den_strs {K:PySem.W.Frag}{H:Hp}{p:Addr}{xs:List Str}(h:H p=some (.lst (xs.map V.str))) (hl:xs.length<=5000):Den K H (.ref p) (.lst (xs.map Dt.str)):=by
 refine .lst (SqL.of h) (by rw [List.length_map,List.length_map]) (by rw [List.length_map]; exact hl) fun i u d hu hd=>?_
 rw [List.getElem?_map] at hu hd
 cases z:xs[i]? with
 | none=>rw [z] at hu; cases hu
 | some y=>rw [z] at hu hd; cases hu; cases hd; exact .str _
theorem eqbs_strs:∀ xs:List Str,Dt.eqb.eqbs (xs.map Dt.str) (xs.map Dt.str)=true
 | []=>rfl
 | x :: r=>by
  show ((Dt.str x).eqb (.str x) && Dt.eqb.eqbs (r.map Dt.str) (r.map Dt.str))=true
  rw [eqbs_strs r,Bool.and_true]
  exact decide_eq_true rfl
theorem deeps_strs:∀ xs:List Str,Dt.deep.deeps (xs.map Dt.str)=0
 | []=>rfl
 | x :: r=>by show max 0 (Dt.deep.deeps (r.map Dt.str))=0; rw [deeps_strs r]; rfl
theorem TabOk.frame {H H':Hp}{P:Addr}{q:Str}(t:TabOk H P q) (e:∀ b o,(∀ xs,o≠.lst xs)->(∀ c,o≠.dK c)->(∀ c,o≠.dT c)->H b=some o->H' b=some o):TabOk H' P q:=by
 obtain ⟨ps,h1,h2,h3⟩:=t
 exact ⟨ps,e _ _ (fun _ z=>by cases z) (fun _ z=>by cases z) (fun _ z=>by cases z) h1,h2,fun pos cv z=>let ⟨c,e1,e2,e3⟩:=h3 pos cv z; ⟨c,e1,e2,e _ _ (fun _ z=>by cases z) (fun _ z=>by cases z) (fun _ z=>by cases z) e3⟩⟩
end L2
namespace PySem
open Sem (wp)
section
variable {prog:Program}{w:World}{K:Type} [DecidableEq K] {knd:KeyKind prog w K}{A:Around}{R:Result->Shared->Prop}{I:Addr}{fp wr:List Addr}{G:Array GenState->Array GenState->Prop}{n:Nat}{P:Nat->Value->Prop}{St:Nat->Shared->Prop}
end
section
variable {prog:Program}{w:World}{K:Type} [DecidableEq K] {knd:KeyKind prog w K}{A:Around}{E:Value->Shared->Prop}{s:Shared}
end
end PySem
namespace L2
open PySem PySem.Spec PyProof.Rows
section
variable {X:Cx}
end
end L2
namespace L2
open PySem
def iN (q:Nat):V:=.int (q:Nat)
structure Buns (H0:Hp) (p:Addr) (H:Hp) (bl:List (List (Nat×Nat))):Prop where
 same:Same H0 H
 fr:H0 p=none
 at_:∃ bs:List Addr,H p=some (.lst (bs.map V.ref))/\bs.length=bl.length/\(∀ b∈bs,b≠p/\H0 b=none)/\∀(i:Nat) (b:Addr) (ks:List (Nat×Nat)),bs[i]? = some b->bl[i]? = some ks->∃ as:List Addr,H b=some (.lst (as.map V.ref))/\Tups H as (ks.map skP)
theorem Buns.mono {H0 H H1:Hp}{p:Addr}{bl:List (List (Nat×Nat))}(B:Buns H0 p H bl) (s:Same H H1):Buns H0 p H1 bl:=by
 obtain ⟨bs,e,l,f,g⟩:=B.at_
 exact ⟨B.same.trans' s,B.fr,bs,s _ _ e,l,f,fun i b ks h1 h2=>let ⟨as,e1,t1⟩:=g i b ks h1 h2; ⟨as,s _ _ e1,t1.mono s⟩⟩
theorem Buns.back {H0 H1 H:Hp}{p:Addr}{bl:List (List (Nat×Nat))}(B:Buns H1 p H bl) (s:Same H0 H1):Buns H0 p H bl:=by
 have nb:∀{q:Addr},H1 q=none->H0 q=none:=fun {q} h=>by
  cases z:H0 q with
  | none=>rfl
  | some o=>rw [s _ _ z] at h; cases h
 obtain ⟨bs,e,l,f,g⟩:=B.at_
 exact ⟨s.trans' B.same,nb B.fr,bs,e,l,fun b hb=>⟨(f b hb).1,nb (f b hb).2⟩,g⟩
theorem Buns.put {H0 H H1:Hp}{p b:Addr}{bl:List (List (Nat×Nat))}{ks:List (Nat×Nat)}(B:Buns H0 p H bl) (hb:H b=none) (A:Acc H b H1 (ks.map skP)) :
  ∃ bs:List Addr,H1 p=some (.lst (bs.map V.ref))/\bs.length=bl.length/\Buns H0 p (upd H1 p (.lst (bs.map V.ref ++ [.ref b]))) (bl ++ [ks]):=by
 obtain ⟨bs,e,l,f,g⟩:=B.at_
 have e1:=A.same _ _ e
 have bp:b≠p:=fun z=>by rw [z,e] at hb; cases hb
 have b0:H0 b=none:=by
  cases z:H0 b with
  | none=>rfl
  | some o=>rw [B.same _ _ z] at hb; cases hb
 refine ⟨bs,e1,l,fun c o z=>?_,B.fr,bs ++ [b],by rw [upd_same,List.map_append]; rfl,by rw [List.length_append,List.length_append,l]; rfl,fun c hc=>?_,fun i c ks' h1 h2=>?_⟩
 ·rw [upd_ne (fun w=>by rw [w,B.fr] at z; cases z)]
  exact A.same _ _ (B.same _ _ z)
 ·rcases List.mem_append.mp hc with hc | hc
  ·exact f c hc
  ·rw [List.mem_singleton.mp hc]; exact ⟨bp,b0⟩
 ·by_cases il:i < bs.length
  ·rw [List.getElem?_append_left il] at h1
   rw [List.getElem?_append_left (by omega)] at h2
   obtain ⟨as,e2,t2⟩:=g i c ks' h1 h2
   refine ⟨as,?_,(t2.mono A.same).upd e1⟩
   rw [upd_ne (f c (List.mem_of_getElem? h1)).1]
   exact A.same _ _ e2
  ·have ie:i=bs.length:=by
    have:=(List.getElem?_eq_some_iff.mp h1).1
    rw [List.length_append] at this
    have:[b].length=1:=rfl
    omega
   subst ie
   rw [List.getElem?_append_right (Nat.le_refl _),Nat.sub_self] at h1
   rw [l,List.getElem?_append_right (Nat.le_refl _),Nat.sub_self] at h2
   cases h1
   cases h2
   obtain ⟨as,e2,t2⟩:=A.at_
   refine ⟨as,?_,t2.upd e1⟩
   rw [upd_ne bp]
   exact e2
theorem valV_some_iff {κ:Type} [DecidableEq κ] {kvs:List (κ×V)}{k:κ}:(valV kvs k).isSome=true↔k∈kvs.map (·.1):=by
 constructor
 ·intro h
  obtain ⟨v,e⟩:=Option.isSome_iff_exists.mp h
  exact valV_in e
 ·intro h
  cases z:valV kvs k with
  | some _=>rfl
  | none=>exact absurd h (valV_not z)
end L2
namespace K63
open PySem L2
theorem skP_eq {p p':Nat×Nat}(h:skP p=skP p'):p=p':=by
 obtain ⟨q,a⟩:=p
 obtain ⟨r,b⟩:=p'
 unfold skP sk at h
 simp at h
 obtain ⟨h1,h2⟩:=h
 have h1:q=r:=by omega
 subst h1
 subst h2
 rfl
structure Tl (rs:List Str) (n:Nat) (ps:List Str) (num:Nat) (kvs:List (List Key×V)):Prop where
 own:∀ k v,valV kvs k=some v->∃(p:Nat×Nat) (i:Nat) (x:Str),k=skP p/\v=.int i/\i < num/\ps[i]? = some x/\p.1 < n/\p.2=ch x p.1/\¬ p.2=45
 has:∀ i x q,i < num->ps[i]? = some x->q < n->¬ ch x q=45->(valV kvs (skP (q,ch x q))).isSome=true
 two:∀ p p',(valV kvs (skP p)).isSome=true->(valV kvs (skP p')).isSome=true->0 < cntB rs p.1 p.2 p'.1 p'.2
 len:kvs.length<=12 * num
theorem Tl.start (rs:List Str) (n:Nat) (ps:List Str):Tl rs n ps 0 []:=⟨(fun k v h=>by cases h),(fun i x q h=>absurd h (Nat.not_lt_zero _)),(fun p p' h=>by cases h),Nat.zero_le _⟩
noncomputable def frL (kvs:List (List Key×V)) (x:Str) (n:Nat):List (Nat×Nat):=(ansG x n).filter fun p=>!(valV kvs (skP p)).isSome
theorem Tl.next {rs:List Str}{n:Nat}{ps:List Str}{num:Nat}{kvs kvs':List (List Key×V)}{x:Str}(h:Tl rs n ps num kvs) (hx:ps[num]? = some x) (sx:Stands rs n x) (n12:n<=12)
  (ok:∀ p'∈frL kvs x n,∀ p,(valV kvs (skP p)).isSome=true->0 < cntB rs p.1 p.2 p'.1 p'.2) (hv:∀ k,(k∈(frL kvs x n).map skP->valV kvs' k=some (.int num))/\(k∉(frL kvs x n).map skP->valV kvs' k=valV kvs k)) (hl:kvs'.length<=kvs.length + (frL kvs x n).length):Tl rs n ps (num + 1) kvs':=by
 have inF:∀ p,skP p∈(frL kvs x n).map skP↔p∈frL kvs x n:=fun p=>by
  rw [List.mem_map]
  exact ⟨fun ⟨p',hp,e⟩=>by rw [<- skP_eq e]; exact hp,fun hp=>⟨p,hp,rfl⟩⟩
 have fA:∀ p∈frL kvs x n,p.1 < n/\p.2=ch x p.1/\¬ p.2=45:=fun p hp=>ansG_mem (List.mem_filter.mp hp).1
 have some_iff:∀ p,(valV kvs' (skP p)).isSome=true↔p∈frL kvs x n∨(valV kvs (skP p)).isSome=true:=fun p=>by
  by_cases c:p∈frL kvs x n
  ·rw [(hv _).1 ((inF p).mpr c)]
   exact ⟨fun _=>.inl c,fun _=>rfl⟩
  ·rw [(hv _).2 (fun w=>c ((inF p).mp w))]
   exact ⟨.inr,fun w=>w.resolve_left c⟩
 refine ⟨fun k v e=>?_,fun i y q hi hy hq nq=>?_,fun p p' e e'=>?_,?_⟩
 ·by_cases c:k∈(frL kvs x n).map skP
  ·rw [(hv _).1 c] at e
   cases e
   obtain ⟨p,hp,rfl⟩:=List.mem_map.mp c
   obtain ⟨a,b,d⟩:=fA p hp
   exact ⟨p,num,x,rfl,rfl,Nat.lt_succ_self _,hx,a,b,d⟩
  ·rw [(hv _).2 c] at e
   obtain ⟨p,i,y,a,b,d,r⟩:=h.own k v e
   exact ⟨p,i,y,a,b,Nat.lt_succ_of_lt d,r⟩
 ·rw [some_iff]
  by_cases c:i < num
  ·exact .inr (h.has i y q c hy hq nq)
  ·have e:i=num:=by omega
   subst e
   rw [hx] at hy
   cases hy
   cases z:(valV kvs (skP (q,ch x q))).isSome with
   | true=>exact .inr rfl
   | false=>exact .inl (List.mem_filter.mpr ⟨mem_ansG hq nq,by rw [z]; rfl⟩)
 ·rw [some_iff] at e e'
  rcases e with e | e <;> rcases e' with e' | e'
  ·obtain ⟨a1,a2,a3⟩:=fA p e
   obtain ⟨b1,b2,b3⟩:=fA p' e'
   rw [a2,b2]
   exact sx _ _ a1 b1 (by rw [<- a2]; exact a3) (by rw [<- b2]; exact b3)
  ·rw [cntB_comm]
   exact ok p e p' e'
  ·exact ok p' e' p e
  ·exact h.two p p' e e'
 ·have l1:=ansG_len x n
  have l2:(frL kvs x n).length<=(ansG x n).length:=List.length_filter_le _ _
  have l3:=h.len
  omega
structure Wh (rs:List Str) (n:Nat) (kvs:List (List Key×V)) (i:Nat) (W:Str):Prop where
 pat:Pat n W
 key:∀ q,q < n->ch W q=45∨(valV kvs (skP (q,ch W q))).isSome=true
 all:∀ j p v,j < i->kvs[j]? = some (skP p,v)->ch W p.1=p.2
theorem Wh.start (rs:List Str) (n:Nat) (kvs:List (List Key×V)):Wh rs n kvs 0 (tx n fun _=>45) :=
 ⟨⟨tx_len _ _,fun i hi=>by rw [ch_tx hi]; exact .inr (.inr rfl)⟩,(fun q hq=>by rw [ch_tx hq]; exact .inl rfl),fun j p v h=>absurd h (Nat.not_lt_zero _)⟩
theorem val_mem {kvs:List (List Key×V)}{j:Nat}{k:List Key}{v:V}(h:kvs[j]? = some (k,v)):(valV kvs k).isSome=true:=valV_some_iff.mpr (List.mem_map.mpr ⟨_,List.mem_of_getElem? h,rfl⟩)
theorem Wh.next {rs:List Str}{n:Nat}{ps:List Str}{num i:Nat}{kvs:List (List Key×V)}{W:Str}{p:Nat×Nat}{v:V}(h:Wh rs n kvs i W) (T:Tl rs n ps num kvs) (hi:kvs[i]? = some (skP p,v)) (hp:p.1 < n) (sp:p.2=121∨p.2=110):Wh rs n kvs (i + 1) (tx n (setC W p.1 p.2)):=by
 have at_:∀ q,q < n->ch (tx n (setC W p.1 p.2)) q=if q=p.1 then p.2 else ch W q:=fun q hq=>by rw [ch_tx hq]; rfl
 refine ⟨⟨tx_len _ _,fun q hq=>?_⟩,fun q hq=>?_,fun j p' v' hj hk=>?_⟩
 ·rw [at_ q hq]
  split
  ·rcases sp with e | e
   ·exact .inl e
   ·exact .inr (.inl e)
  ·exact h.pat.sgn q hq
 ·rw [at_ q hq]
  by_cases c:q=p.1
  ·rw [if_pos c,c]
   exact .inr (val_mem hi)
  ·rw [if_neg c]
   exact h.key q hq
 ·have hp':p'.1 < n:=by
   obtain ⟨v1,e1⟩:=Option.isSome_iff_exists.mp (val_mem hk)
   obtain ⟨p2,_,_,e2,_,_,_,l,_⟩:=T.own _ _ e1
   rw [skP_eq e2]; exact l
  rw [at_ _ hp']
  by_cases c:p'.1=p.1
  ·rw [if_pos c]
   obtain ⟨y,_,e1,e2⟩:=cnt_pos.mp (T.two p p' (val_mem hi) (val_mem hk))
   rw [<- e1,<- e2,c]
  ·rw [if_neg c]
   by_cases w:j < i
   ·exact h.all j p' v' w hk
   ·have e:j=i:=by omega
    subst e
    rw [hi] at hk
    have e2:=(Prod.mk.inj (Option.some.inj hk)).1
    exact absurd (show p'.1=p.1 by rw [skP_eq e2]) c
theorem Wh.fin {rs:List Str}{n:Nat}{ps:List Str}{kvs:List (List Key×V)}{W:Str}(h:Wh rs n kvs kvs.length W) (T:Tl rs n ps ps.length kvs):Stands rs n W/\∀ x∈ps,∀ i,i < n->¬ ch x i=45->ch W i=ch x i:=by
 refine ⟨fun q r hq hr nq nr=>?_,fun x hx i hi ni=>?_⟩
 ·exact T.two (q,ch W q) (r,ch W r) ((h.key q hq).resolve_left nq) ((h.key r hr).resolve_left nr)
 ·obtain ⟨j,hj⟩:=List.mem_iff_getElem?.mp hx
  have m:=valV_some_iff.mp (T.has j x i (List.getElem?_eq_some_iff.mp hj).1 hj hi ni)
  obtain ⟨kv,hkv,e⟩:=List.mem_map.mp m
  obtain ⟨l,hl⟩:=List.mem_iff_getElem?.mp hkv
  obtain ⟨k,v⟩:=kv
  cases (show k=skP (i,ch x i) from e)
  exact h.all l (i,ch x i) v (List.getElem?_eq_some_iff.mp hl).1 hl
end K63
namespace K63
open PySem L2
open PyProof.Rows (envOfC)
abbrev s_joined:Stmt:=top 34
def Clash (rs:List Str) (n:Nat) (x y:Str):Prop:=∃ q r,q < n/\r < n/\¬ ch x q=45/\¬ ch y r=45/\cntB rs q (ch x q) r (ch y r)=0
def Meet (H:Hp) (p:Addr) (rs:List Str) (n:Nat) (ps:List Str):Prop :=
 (∃ z,H p=some (.tup [.str "row",.str z])/\Row n z/\Borne rs n z/\∀ x∈ps,∀ i,i < n->¬ ch x i=45->ch z i=ch x i) ∨
 ∃(i j:Nat) (x y:Str),H p=some (.tup [.str "apart",.int i,.int j])/\i<=j/\ps[i]? = some x/\ps[j]? = some y/\Clash rs n x y
section
variable {P:Program}{w:World}{K:PySem.W.Frag}{mg:Str->Option Value}{base:Heap}{C fi fa ft fy fm fc:Addr}{gi ga gt gy gm gc:FuncData}{W BC BS fW fC fS:Addr}{gW gC gS:FuncData}
def spJoined (C:Addr):Sp:=fun vs H Q _=>∃(t dx kp bt pl:Addr) (n m:Nat) (rs ps:List Str),vs=[.ref t,.ref pl]/\TabAt C H t dx kp bt n m rs/\H pl=some (.lst (ps.map V.str))/\(∀ x∈ps,Pat n x/\Stands rs n x)/\ps.length<=100/\1<=n/\n<=12/\rs≠[]/\(∀ y∈rs,Row n y) /\
 ∀ p H',Same H H'->Meet H' p rs n ps->Q (.ref p) H'
abbrev N_jo:List Str:=["table", "patterns", "tellers", "number", "pattern", "fresh", "r", "b", "q", "a", "answer", "whole", "question", "sign"]
abbrev P_jo:List Str:=["table", "patterns"]
theorem sc_jo:FnScope N_jo P_jo (defScope s_joined):=⟨rfl,rfl,rfl,by decide +kernel,rfl,by decide +kernel,by decide +kernel⟩
abbrev N_jo1:List Str:=["answer", "tellers"]
theorem nd_jo1:N_jo1.Nodup:=by decide +kernel
theorem ok_joined {f fn fl fw:Addr}{fd gn gl gw:FuncData}(D:Df K mg "joined" s_joined P_jo f fd) (Dn:Df K mg "answers" s_ans ["pattern"] fn gn) (T:Tb K mg C fi fa ft fy fm fc gi ga gt gy gm gc) (Gc:FnOk P w K mg base (CXE P w) 3 fc gc Ptc (spTcount C)) (Dl:Df K mg "fill" s_fill Pgp fl gl) (Gl:FnOk P w K mg base (CXE P w) 5 fl gl Pgp (spFill C))
  (Dw:Df K mg "with_answer" s_with Pwi fw gw) (B:Bt mg) (M:Gm mg):FnOk P w K mg base (CXE P w) 6 f fd P_jo (spJoined C):=by
 refine D.F.okN sc_jo (fun vs H Q E h=>?_) (fun cdv A outer s H vs Q E hr h=>?_)
 ·obtain ⟨t,dx,kp,bt,pl,n,m,rs,ps,rfl,_⟩:=h
  rfl
 ·obtain ⟨t,dx,kp,bt,pl,n,m,rs,ps,rfl,tab,epl,hps,l100,n1,n12,rne,hrs,k⟩:=h
  have hu:(A.deeper (envOfC "joined" (defScope s_joined) s.heap.objs.size f cdv)).units + 1 < cLine:=by have:=hr.units; omega
  refine ⟨_,pss_cons (ps_set (i:=2) sc_jo.nd rfl (Or.inr rfl) pe_dnewT)
   (pss_cons (ps_for PassesOwn.never rfl (pi_enumL (by rfl) M.enum (pa_cons (pv 1) pa_nil)) (pg_tup rfl (pgs_cons (pg_name (i:=3) sc_jo.nd rfl (Or.inl rfl)) (pgs_cons (pg_name (i:=4) sc_jo.nd rfl (Or.inl rfl)) pgs_nil)))
   (pss_cons (ps_comp (i:=5) (N':=N_jo1) (fm:=[none,some 2]) rfl sc_jo.nd rfl rfl ⟨rfl,by decide +kernel,by decide +kernel,rfl,rfl,rfl⟩ (pi_list (pe_fn Dn (ok_ans Dn M) (hr.mono (by decide)) passN (pa_cons (pv 4) pa_nil))) (fun _ _ _ _=>(pg_name (i:=0) nd_jo1 rfl (Or.inl rfl))) (fun _ _ _ _=>(pif_one (pt_cmp (pc_dnotin hu (pv 0) (pv 1))))) (fun _ _ _ _=>(pv 0)))
   (pss_cons (ps_for PassesOwn.never rfl (pi_list (pv 5)) (pg_tup rfl (pgs_cons (pg_name (i:=6) sc_jo.nd rfl (Or.inl rfl)) (pgs_cons (pg_name (i:=7) sc_jo.nd rfl (Or.inl rfl)) pgs_nil)))
   (pss_one (ps_for PassesOwn.never rfl (pi_dict (pv 2)) (pg_tup rfl (pgs_cons (pg_name (i:=8) sc_jo.nd rfl (Or.inl rfl)) (pgs_cons (pg_name (i:=9) sc_jo.nd rfl (Or.inl rfl)) pgs_nil)))
   (pss_one (ps_if (pt_cmpR op_eq (pe_meth (pv 0) T.cl T.mc Gc (hr.mono (by decide)) T.bc .nil passN (pa_cons (pv 8) (pa_cons (pv 9) (pa_cons (pv 6) (pa_cons (pv 7) pa_nil))))) pe_int (nomark _)) (pss_one (ps_ret (pe_tup (pa_cons pe_str (pa_cons (pe_dget hu (pv 2) (pe_tup (pa_cons (pv 8) (pa_cons (pv 9) pa_nil))) (fun _ _=>rfl)) (pa_cons (pv 3) pa_nil)))))) pss_nil)))))
   (pss_one (ps_thaw (ps_for PassesOwn.never rfl (pi_list (pv 5)) (pg_name (i:=10) sc_jo.nd rfl (Or.inl rfl))
   (pss_one (ps_dput hu (pv 2) (pv 10) (pv 3) rfl))))))))
   (pss_cons (ps_set (i:=11) sc_jo.nd rfl (Or.inl rfl) (pe_op op_rep_str pe_str (pe_fld (pv 0) rfl)))
   (pss_cons (ps_for PassesOwn.never rfl (pi_dict (pv 2)) (pg_tup rfl (pgs_cons (pg_name (i:=12) sc_jo.nd rfl (Or.inl rfl)) (pgs_cons (pg_name (i:=13) sc_jo.nd rfl (Or.inl rfl)) pgs_nil)))
   (pss_one (ps_set (i:=11) sc_jo.nd rfl (Or.inl rfl) (pe_fn Dw (ok_with Dw) (hr.mono (by decide)) passN (pa_cons (pv 11) (pa_cons (pv 12) (pa_cons (pv 13) pa_nil)))))))
   (pss_one (ps_ret (pe_tup (pa_cons pe_str (pa_cons (pe_fn Dl Gl (hr.mono (by decide)) passN (pa_cons (pv 0) (pa_cons (pv 11) pa_nil))) pa_nil)))))))),?_⟩
  intro td htd
  have s0:Same H (upd H td (.dT [])):=Same.new htd
  refine ⟨_,rfl,pl,rfl,⟨_,SqL.of (s0 _ _ epl)⟩,?_⟩
  refine for_enumL (K:=K) (a:=pl) (xs:=ps.map V.str) (fun i σ H2=>∃(kvs:List (List Key×V)) (v3 v4 v5 v6 v7 v8 v9 v10:Option V),σ=[some (.ref t),some (.ref pl),some (.ref td),v3,v4,v5,v6,v7,v8,v9,v10,none,none,none]/\Same H H2/\H2 td=some (.dT kvs)/\Tl rs n ps i kvs) ⟨[],_,_,_,_,_,_,_,_,rfl,s0,upd_same,Tl.start rs n ps⟩ (fun i σ H2 _ ⟨_,_,_,_,_,_,_,_,_,_,s2,_⟩=>SqL.of (s2 _ _ epl)) ?_ ?_
  ·rintro i y TT σ H2 hi hTT ⟨kvs,v3,v4,v5,v6,v7,v8,v9,v10,rfl,s2,e2,tl⟩
   rw [List.getElem?_map] at hi
   cases zi:ps[i]? with
   | none=>rw [zi] at hi; cases hi
   | some x =>
    rw [zi] at hi
    cases hi
    have il:=(List.getElem?_eq_some_iff.mp zi).1
    obtain ⟨px,sx⟩:=hps x (List.mem_of_getElem? zi)
    have sT:=Same.new (o:=.tup [.int i,.str x]) hTT
    have e2T:=sT _ _ e2
    have hTd:H2 TT=none:=hTT
    refine ⟨TT,_,rfl,SqT.of upd_same,rfl,_,_,rfl,_,_,rfl,rfl,?_⟩
    have s2T:=s2.trans' sT
    generalize upd H2 TT (.tup [.int i,.str x])=H3 at *
    refine ⟨_,rfl,x,n,rfl,px.len,n12,fun ga H4 hga acc=>?_⟩
    obtain ⟨as,ea,ta⟩:=acc.at_
    have s34:=acc.same
    have e4:=s34 _ _ e2T
    refine ⟨ga,rfl,⟨_,SqL.of ea⟩,fun lb hlb=>?_⟩
    refine blk_list (K:=K) (a:=ga) (xs:=as.map V.ref) (fun j σ H5=>∃(v:Option V) (fs:List Addr),σ=[v,some (.ref td)]/\Same H4 H5/\H5 lb=some (.lst (fs.map V.ref))/\Tups H4 fs ((((ansG x n).take j).filter fun p=>!(valV kvs (skP p)).isSome).map skP)) ⟨none,[],rfl,Same.new hlb,upd_same,Tups.nil⟩ (fun i σ H5 _ ⟨_,_,_,s5,_⟩=>SqL.of (s5 _ _ ea)) ?_ ?_
    ·rintro j y σ H5 hj ⟨v,fs,rfl,s5,e5,t5⟩
     obtain ⟨r1,k1,rfl,ek,er⟩:=ta.item hj
     rw [List.getElem?_map] at ek
     cases zj:(ansG x n)[j]? with
     | none=>rw [zj] at ek; cases ek
     | some pr =>
      rw [zj] at ek
      cases ek
      have sn:((ansG x n).take (j + 1)).filter (fun p=>!(valV kvs (skP p)).isSome)=((ansG x n).take j).filter (fun p=>!(valV kvs (skP p)).isSome) ++ [pr].filter (fun p=>!(valV kvs (skP p)).isSome):=by
       rw [List.take_add_one,zj,List.filter_append]
       rfl
      have fl:fs.length<=12:=by
       rw [t5.1,List.length_map]
       exact Nat.le_trans (List.length_filter_le _ _) (Nat.le_trans (List.length_take_le' _ _) (Nat.le_trans (ansG_len x n) n12))
      refine ⟨_,rfl,_,rfl,td,_,rfl,DGet.t (s5 _ _ e4) (s5 _ _ er),_,rfl,?_⟩
      show if (!(valV kvs (skP pr)).isSome)=true then _ else _
      cases zv:(valV kvs (skP pr)).isSome with
      | false =>
       rw [if_pos (by rfl)]
       refine ⟨_,rfl,_,e5,?_,_,fs ++ [r1],rfl,Same.grow hlb s5,?_,?_⟩
       ·rw [List.length_map]
        exact Nat.lt_of_le_of_lt fl (by decide)
       ·rw [upd_same,List.map_append]; rfl
       ·rw [sn,show [pr].filter (fun p=>!(valV kvs (skP p)).isSome)=[pr] from List.filter_cons_of_pos (p:=fun p=>!(valV kvs (skP p)).isSome) (by rw [zv]; rfl),List.map_append]
        exact t5.snoc er
      | true =>
       rw [if_neg (by decide)]
       refine ⟨_,fs,rfl,s5,e5,?_⟩
       rw [sn,show [pr].filter (fun p=>!(valV kvs (skP p)).isSome)=[] from List.filter_cons_of_neg (p:=fun p=>!(valV kvs (skP p)).isSome) (by rw [zv]; decide),List.append_nil]
       exact t5
    rintro σ H5 ⟨v,fs,rfl,s5,e5,t5⟩
    rw [List.length_map,ta.1,List.length_map,List.take_length] at t5
    have t5:Tups H5 fs ((frL kvs x n).map skP):=t5.mono s5
    have e5d:=s5 _ _ e4
    have s25:=s2T.trans' (s34.trans' s5)
    have frm:∀ p∈frL kvs x n,p.1 < n/\(p.2=121∨p.2=110):=fun p hp=>sgn_of px (List.mem_filter.mp hp).1
    have ltd:lb≠td:=fun w=>by rw [w,e4] at hlb; cases hlb
    refine ⟨_,rfl,lb,rfl,⟨_,SqL.of e5⟩,?_⟩
    refine for_list (K:=K) (a:=lb) (xs:=fs.map V.ref) (fun j σ H6=>∃ v6 v7 v8 v9,σ=[some (.ref t),some (.ref pl),some (.ref td),some (.int i),some (.str x),some (.ref lb),v6,v7,v8,v9,v10,none,none,none]/\Same H H6/\H6 lb=some (.lst (fs.map V.ref))/\Tups H6 fs ((frL kvs x n).map skP)/\(H6 td=some (.dT kvs)∨∃ o,H6 td=some (.frz o (.dT kvs)))/\∀ j' p',j' < j->(frL kvs x n)[j']? = some p'->∀ p,(valV kvs (skP p)).isSome=true->0 < cntB rs p.1 p.2 p'.1 p'.2) ⟨_,_,_,_,rfl,s25,e5,t5,.inl e5d,fun j' p' h=>absurd h (Nat.not_lt_zero _)⟩ (fun i σ H6 _ ⟨_,_,_,_,_,_,e6,_⟩=>SqL.of e6) ?_ ?_
    ·rintro j y σ H6 hj ⟨v6,v7,v8,v9,rfl,s6,e6,t6,d6,dn⟩
     obtain ⟨r1,k1,rfl,ek,er⟩:=t6.item hj
     rw [List.getElem?_map] at ek
     cases zj:(frL kvs x n)[j]? with
     | none=>rw [zj] at ek; cases ek
     | some p' =>
      rw [zj] at ek
      cases ek
      obtain ⟨f1,f2⟩:=frm p' (List.mem_of_getElem? zj)
      refine ⟨r1,_,rfl,SqT.of er,rfl,_,_,rfl,_,_,rfl,rfl,?_⟩
      refine iDictV (td:=td) (kvs:=kvs) ⟨_,rfl,rfl,rfl⟩ d6 fun o H7 e7 k7=>?_
      have ntd:∀ xs,H6 td≠some (.tup xs):=fun xs w=>by rcases d6 with d | ⟨_,d⟩ <;> rw [d] at w <;> cases w
      have s7:=s6.but htd k7
      have t7:=t6.but ntd k7
      have l7:H7 lb=some (.lst (fs.map V.ref)):=by rw [k7 lb ltd]; exact e6
      refine for_dict (a:=td) (o:=o) (kvs:=kvs) (fun i2 σ H8=>∃ v8 v9,σ=[some (.ref t),some (.ref pl),some (.ref td),some (.int i),some (.str x),some (.ref lb),some (.int p'.1),some (s1 p'.2),v8,v9,v10,none,none,none]/\Same H7 H8/\∀ j2 p v,j2 < i2->kvs[j2]? = some (skP p,v)->0 < cntB rs p.1 p.2 p'.1 p'.2) ⟨_,_,rfl,Same.refl _,fun j2 p v h=>absurd h (Nat.not_lt_zero _)⟩ (fun i2 σ H8 _ ⟨_,_,_,s8,_⟩=>s8 _ _ e7) ?_ ?_
      ·rintro i2 kk vv bb σ H8 hk ⟨v8,v9,rfl,s8,dn8⟩ eb
       obtain ⟨v0,hv0⟩:=Option.isSome_iff_exists.mp (val_mem hk)
       obtain ⟨p,i0,x0,rfl,rfl,i0l,hx0,p1,p2,p3⟩:=tl.own _ _ hv0
       have sp:p.2=121∨p.2=110:=by
        have:=(hps x0 (List.mem_of_getElem? hx0)).1.sgn p.1 p1
        rw [<- p2] at this
        rcases this with h | h | h
        ·exact .inl h
        ·exact .inr h
        ·exact absurd h p3
       have tab8:=tab.mono (s7.trans' s8)
       refine ⟨bb,_,rfl,SqT.of eb,rfl,_,_,rfl,_,_,rfl,rfl,?_⟩
       refine ⟨_,rfl,t,dx,_,rfl,tab8.ins,rfl,_,rfl,_,rfl,_,rfl,_,rfl,t,dx,kp,bt,n,m,rs,p.1,p.2,p'.1,p'.2,rfl,tab8,p1,f1,sp,f2,fun H9 s9=>⟨rfl,_,rfl,ite2 (fun c=>?_) (fun c=>?_)⟩⟩
       ·have c:decide (V.int (cntB rs p.1 p.2 p'.1 p'.2:Nat)=V.int 0)=true:=c
        rw [dec_int] at c
        have c0:cntB rs p.1 p.2 p'.1 p'.2=0:=by have:=beq_iff_eq.mp c; omega
        have f3:=ansG_mem (List.mem_filter.mp (List.mem_of_getElem? zj)).1
        refine ⟨_,rfl,_,rfl,_,rfl,len_le (show 2<=100 by decide),fun T2 hT2=>?_⟩
        refine ⟨td,.int i0,rfl,.inr ⟨kvs,skP p,T2,.inr ⟨o,Same.new hT2 _ _ (s9 _ _ (s8 _ _ e7))⟩,rfl,upd_same,hv0.symm⟩,_,rfl,len_le (show 3<=100 by decide),fun rp hrp=>?_⟩
        refine k rp _ (s7.trans' (s8.trans' (s9.trans' ((Same.new hT2).trans' (Same.new hrp))))) (.inr ⟨i0,i,x0,x,upd_same,by omega,hx0,zi,p.1,p'.1,p1,f1,?_,?_,?_⟩)
        ·rw [<- p2]; exact p3
        ·rw [<- f3.2.1]; exact f3.2.2
        ·rw [<- p2,<- f3.2.1]; exact c0
       ·have c:¬ decide (V.int (cntB rs p.1 p.2 p'.1 p'.2:Nat)=V.int 0)=true:=c
        refine ⟨_,_,rfl,s8.trans' s9,fun j2 p'' v'' hj2 hk2=>?_⟩
        by_cases w:j2 < i2
        ·exact dn8 j2 p'' v'' w hk2
        ·have e:j2=i2:=by omega
         subst e
         rw [hk] at hk2
         rw [<- skP_eq (Prod.mk.inj (Option.some.inj hk2)).1]
         refine Nat.pos_of_ne_zero fun w=>c (decide_eq_true ?_)
         rw [w]; rfl
      ·rintro σ H8 ⟨v8,v9,rfl,s8,dn8⟩
       refine ⟨_,_,v8,v9,rfl,s7.trans' s8,s8 _ _ l7,t7.mono s8,.inr ⟨o,s8 _ _ e7⟩,fun j' q' hj' hq' p hp=>?_⟩
       by_cases w:j' < j
       ·exact dn j' q' w hq' p hp
       ·have e:j'=j:=by omega
        subst e
        rw [zj] at hq'
        cases hq'
        obtain ⟨kv,hkv,e⟩:=List.mem_map.mp (valV_some_iff.mp hp)
        obtain ⟨l,hl⟩:=List.mem_iff_getElem?.mp hkv
        obtain ⟨k0,v0⟩:=kv
        cases (show k0=skP p from e)
        exact dn8 l p v0 (List.getElem?_eq_some_iff.mp hl).1 hl
    rintro σ H6 ⟨v6,v7,v8,v9,rfl,s6,e6,t6,d6,dn⟩
    have lfs:fs.length=(frL kvs x n).length:=by rw [t6.1,List.length_map]
    have ok:∀ p'∈frL kvs x n,∀ p,(valV kvs (skP p)).isSome=true->0 < cntB rs p.1 p.2 p'.1 p'.2:=fun p' hp'=>by
     obtain ⟨j,hj⟩:=List.mem_iff_getElem?.mp hp'
     exact dn j p' (by rw [List.length_map,lfs]; exact (List.getElem?_eq_some_iff.mp hj).1) hj
    refine tThaw_mk (show _=none from htd) d6 fun H7 e7 k7=>?_
    have ntd:∀ xs,H6 td≠some (.tup xs):=fun xs w=>by rcases d6 with d | ⟨_,d⟩ <;> rw [d] at w <;> cases w
    have s7:=s6.but htd k7
    have t7:=t6.but ntd k7
    have l7:H7 lb=some (.lst (fs.map V.ref)):=by rw [k7 lb ltd]; exact e6
    refine ⟨_,rfl,lb,rfl,⟨_,SqL.of l7⟩,?_⟩
    refine for_list (K:=K) (a:=lb) (xs:=fs.map V.ref) (fun j σ H8=>∃(kv:List (List Key×V)) (v10:Option V),σ=[some (.ref t),some (.ref pl),some (.ref td),some (.int i),some (.str x),some (.ref lb),v6,v7,v8,v9,v10,none,none,none]/\Same H H8/\H8 lb=some (.lst (fs.map V.ref))/\Tups H8 fs ((frL kvs x n).map skP)/\H8 td=some (.dT kv)/\(∀ k,(k∈((frL kvs x n).take j).map skP->valV kv k=some (.int i))/\(k∉((frL kvs x n).take j).map skP->valV kv k=valV kvs k))/\kv.length<=kvs.length + j) ⟨kvs,_,rfl,s7,l7,t7,e7,(fun k=>⟨(fun h=>by cases h),fun _=>rfl⟩),Nat.le_refl _⟩ (fun i σ H8 _ ⟨_,_,_,_,e8,_⟩=>SqL.of e8) ?_ ?_
    ·rintro j y σ H8 hj ⟨kv,v10,rfl,s8,l8,t8,e8,hv,hl⟩
     obtain ⟨r1,k1,rfl,ek,er⟩:=t8.item hj
     rw [List.getElem?_map] at ek
     cases zj:(frL kvs x n)[j]? with
     | none=>rw [zj] at ek; cases ek
     | some p' =>
      rw [zj] at ek
      cases ek
      have jl:=(List.getElem?_eq_some_iff.mp zj).1
      have fl:(frL kvs x n).length<=12:=Nat.le_trans (List.length_filter_le _ _) (Nat.le_trans (ansG_len x n) n12)
      have tlen:=tl.len
      have nT8:∀ xs,H8 td≠some (.tup xs):=fun xs w=>by rw [e8] at w; cases w
      refine ⟨_,rfl,_,rfl,_,rfl,td,_,rfl,DPut.t e8 er ?_,?_⟩
      ·exact Nat.lt_of_le_of_lt (show kv.length<=1212 by omega) (by rw [sizeLine_eq]; decide)
      have k9:∀ b,b≠td->upd H8 td (.dT (putK kv (skP p') (.int i))) b=H8 b:=fun b nb=>upd_ne nb
      refine ⟨_,_,rfl,s8.but htd k9,by rw [k9 lb ltd]; exact l8,t8.but nT8 k9,upd_same,fun k=>?_,?_⟩
      ·rw [valV_put,List.take_add_one,zj,List.map_append]
       show (k∈_ ++ [skP p']->_)/\(k∉_ ++ [skP p']->_)
       by_cases w:k=skP p'
       ·rw [if_pos w]
        exact ⟨fun _=>rfl,fun h=>absurd (List.mem_append_right _ (List.mem_singleton.mpr w)) h⟩
       ·rw [if_neg w]
        refine ⟨fun h=>?_,fun h=>(hv k).2 fun h'=>h (List.mem_append_left _ h')⟩
        rcases List.mem_append.mp h with h | h
        ·exact (hv k).1 h
        ·exact absurd (List.mem_singleton.mp h) w
      ·have:=put_len kv (skP p') (.int i); omega
    ·rintro σ H8 ⟨kv,v10,rfl,s8,l8,t8,e8,hv,hl⟩
     rw [List.length_map,lfs] at hl hv
     rw [List.take_length] at hv
     exact ⟨kv,_,_,_,_,_,_,_,_,rfl,s8,e8,tl.next zi sx n12 ok hv hl⟩
  rintro σ H2 ⟨kvs,v3,v4,v5,v6,v7,v8,v9,v10,rfl,s2,e2,tl⟩
  rw [List.length_map] at tl
  have tab2:=tab.mono s2
  have e:strRep ("-" : Str) (n:Int)=tx n (fun _=>45):=tx_rep n
  refine ⟨_,rfl,t,C,dx,_,_,rfl,tab2.ins,T.cl,T.nQ,rfl,_,_,rfl,rfl,by omega,by omega,by decide,?_⟩
  rw [e]
  change tFor (iDict (tVar 2)) _ _ _ _ _
  refine iDictV (td:=td) (kvs:=kvs) ⟨_,rfl,rfl,rfl⟩ (.inl e2) fun o H3 e3 k3=>?_
  have s3:=s2.but htd k3
  refine for_dict (a:=td) (o:=o) (kvs:=kvs) (fun i σ H4=>∃(Wx:Str) (v12 v13:Option V),σ=[some (.ref t),some (.ref pl),some (.ref td),v3,v4,v5,v6,v7,v8,v9,v10,some (.str Wx),v12,v13]/\Same H3 H4/\Wh rs n kvs i Wx) ⟨_,_,_,rfl,Same.refl _,Wh.start rs n kvs⟩ (fun i σ H4 _ ⟨_,_,_,_,s4,_⟩=>s4 _ _ e3) ?_ ?_
  ·rintro i kk vv bb σ H4 hk ⟨Wx,v12,v13,rfl,s4,wh⟩ eb
   obtain ⟨v0,hv0⟩:=Option.isSome_iff_exists.mp (val_mem hk)
   obtain ⟨p,i0,x0,rfl,rfl,i0l,hx0,p1,p2,p3⟩:=tl.own _ _ hv0
   have sp:p.2=121∨p.2=110:=by
    have:=(hps x0 (List.mem_of_getElem? hx0)).1.sgn p.1 p1
    rw [<- p2] at this
    rcases this with h | h | h
    ·exact .inl h
    ·exact .inr h
    ·exact absurd h p3
   refine ⟨bb,_,rfl,SqT.of eb,rfl,_,_,rfl,_,_,rfl,rfl,?_⟩
   exact ⟨_,rfl,_,rfl,_,rfl,Wx,n,p.1,p.2,rfl,wh.pat.len,p1,by omega,_,_,_,rfl,s4,wh.next tl hk p1 sp⟩
  ·rintro σ H4 ⟨Wx,v12,v13,rfl,s4,wh⟩
   obtain ⟨st,ag⟩:=wh.fin tl
   refine ⟨_,rfl,_,rfl,t,dx,kp,bt,n,m,rs,Wx,rfl,tab.mono (s3.trans' s4),wh.pat,n12,st,rne,hrs,fun z H5 rz bz az s5=>⟨len_le (show 2<=100 by decide),fun rp hrp=>?_⟩⟩
   refine k rp _ (s3.trans' (s4.trans' (s5.trans' (Same.new hrp)))) (.inl ⟨z,upd_same,rz,bz,fun x hx i hi ni=>?_⟩)
   have a1:=ag x hx i hi ni
   rw [az i hi (by rw [a1]; exact ni),a1]
end
end K63
namespace K63
open PySem L2
open PyProof.Rows (envOfC)
abbrev s_meeting:Stmt:=top 33
section
variable {P:Program}{w:World}{K:PySem.W.Frag}{mg:Str->Option Value}{base:Heap}{C fi fa ft fy fm fc:Addr}{gi ga gt gy gm gc:FuncData}{W BC BS fW fC fS:Addr}{gW gC gS:FuncData}
def spMeeting (C BC BS:Addr):Sp:=fun vs H Q E=>∃(t dx kp bt pl:Addr) (n m:Nat) (rs ps:List Str),vs=[.ref t,.ref pl]/\TabAt C H t dx kp bt n m rs/\H pl=some (.lst (ps.map V.str))/\(∀ x∈ps,x.length<=100)/\ps.length<=100/\1<=n/\n<=12/\(∀ y∈rs,Row n y) /\
 ((∃ x∈ps,¬ Pat n x)->Ref H E BC "bad pattern")/\((∀ x∈ps,Pat n x)->rs=[]->Ref H E BS "empty")/\((∀ x∈ps,Pat n x)->rs≠[]->∀ p H',Same H H'->Meet H' p rs n ps->Q (.ref p) H')
abbrev N_mt:List Str:=["table", "patterns", "pattern", "k"]
abbrev P_mt:List Str:=["table", "patterns"]
theorem sc_mt:FnScope N_mt P_mt (defScope s_meeting):=⟨rfl,rfl,rfl,by decide +kernel,rfl,by decide +kernel,by decide +kernel⟩
theorem ok_meeting {f fp fc' fg fj:Addr}{fd gp gc' gg gj:FuncData}(D:Df K mg "meeting" s_meeting P_mt f fd) (Dp:Df K mg "check_pattern" s_cpat Pip fp gp) (Gp:FnOk P w K mg base (CXE P w) 4 fp gp Pip (spCpat BC)) (Dc:Df K mg "check_filled" s_cfilled ["table"] fc' gc') (Dg:Df K mg "gaps" s_gaps Pgp fg gg) (Gg:FnOk P w K mg base (CXE P w) 5 fg gg Pgp (spGaps C))
  (Dj:Df K mg "joined" s_joined P_jo fj gj) (Gj:FnOk P w K mg base (CXE P w) 6 fj gj P_jo (spJoined C)) (T:Tb K mg C fi fa ft fy fm fc gi ga gt gy gm gc) (X:Xs K mg W BC BS fW fC fS gW gC gS) (M:Gm mg):FnOk P w K mg base (CXE P w) 7 f fd P_mt (spMeeting C BC BS):=by
 refine D.F.okE sc_mt (fun vs H Q E h=>?_) (fun cdv A outer s H vs Q E hr h=>?_)
 ·obtain ⟨t,dx,kp,bt,pl,n,m,rs,ps,rfl,_⟩:=h
  rfl
 ·obtain ⟨t,dx,kp,bt,pl,n,m,rs,ps,rfl,tab,epl,hps,l100,n1,n12,hrs,k1,k2,k3⟩:=h
  refine ⟨_,pss_cons (ps_for PassesOwn.leaving rfl (pi_list (pv 1)) (pg_name (i:=2) sc_mt.nd rfl (Or.inl rfl))
   (pss_one (ps_expr (pe_fn Dp Gp (hr.mono (by decide)) passE (pa_cons (pv 2) (pa_cons (pe_fld (pv 0) rfl) pa_nil))))))
   (pss_cons (ps_expr (pe_fn Dc (ok_cfil Dc T X M) (hr.mono (by decide)) passE (pa_cons (pv 0) pa_nil)))
   (PSs.nox (pss_cons (ps_for PassesOwn.never rfl (pi_enumL (by rfl) M.enum (pa_cons (pv 1) pa_nil)) (pg_tup rfl (pgs_cons (pg_name (i:=3) sc_mt.nd rfl (Or.inl rfl)) (pgs_cons (pg_name (i:=2) sc_mt.nd rfl (Or.inl rfl)) pgs_nil)))
   (pss_one (ps_if (pt_truth (pe_fn Dg Gg (hr.mono (by decide)) passN (pa_cons (pv 0) (pa_cons (pv 2) pa_nil))) (fun _=>rfl)) (pss_one (ps_ret (pe_tup (pa_cons pe_str (pa_cons (pv 3) (pa_cons (pv 3) pa_nil)))))) pss_nil)))
   (pss_one (ps_ret (pe_fn Dj Gj (hr.mono (by decide)) passN (pa_cons (pv 0) (pa_cons (pv 1) pa_nil)))))))),?_⟩
  refine ⟨_,rfl,pl,rfl,⟨_,SqL.of epl⟩,?_⟩
  refine for_list (K:=K) (a:=pl) (xs:=ps.map V.str) (fun i σ H2=>∃ v2,σ=[some (.ref t),some (.ref pl),v2,none]/\Same H H2/\∀ x∈ps.take i,Pat n x) ⟨_,rfl,Same.refl _,(fun x hx=>by cases hx)⟩ (fun i σ H2 _ ⟨_,_,s2,_⟩=>SqL.of (s2 _ _ epl)) ?_ ?_
  ·rintro i y σ H2 hi ⟨v2,rfl,s2,pa⟩
   rw [List.getElem?_map] at hi
   cases zi:ps[i]? with
   | none=>rw [zi] at hi; cases hi
   | some x =>
    rw [zi] at hi
    cases hi
    have mx:=List.mem_of_getElem? zi
    refine ⟨_,rfl,_,rfl,t,C,dx,_,_,rfl,(tab.mono s2).ins,T.cl,T.nQ,rfl,x,n,rfl,hps x mx,n1,n12,?_⟩
    by_cases hp:Pat n x
    case neg=>exact .inr ⟨hp,(k1 ⟨x,mx,hp⟩).same s2⟩
    refine .inl ⟨hp,fun H3 s3=>⟨_,rfl,s2.trans' s3,fun y hy=>?_⟩⟩
    rw [List.take_add_one,zi] at hy
    rcases List.mem_append.mp hy with hy | hy
    ·exact pa y hy
    ·rw [List.mem_singleton.mp hy]; exact hp
  rintro σ H2 ⟨v2,rfl,s2,pa⟩
  rw [List.length_map,List.take_length] at pa
  refine ⟨_,rfl,t,dx,kp,bt,n,m,rs,rfl,tab.mono s2,?_⟩
  by_cases h0:rs=[]
  case pos=>exact .inr ⟨h0,(k2 pa h0).same s2⟩
  refine .inl ⟨h0,?_⟩
  refine ⟨_,rfl,pl,rfl,⟨_,SqL.of (s2 _ _ epl)⟩,?_⟩
  refine for_enumL (K:=K) (a:=pl) (xs:=ps.map V.str) (fun i σ H3=>∃ v2 v3,σ=[some (.ref t),some (.ref pl),v2,v3]/\Same H H3/\∀ x∈ps.take i,Stands rs n x) ⟨_,_,rfl,s2,(fun x hx=>by cases hx)⟩ (fun i σ H2 _ ⟨_,_,_,s2,_⟩=>SqL.of (s2 _ _ epl)) ?_ ?_
  ·rintro i y TT σ H3 hi hTT ⟨v2,v3,rfl,s3,st⟩
   rw [List.getElem?_map] at hi
   cases zi:ps[i]? with
   | none=>rw [zi] at hi; cases hi
   | some x =>
    rw [zi] at hi
    cases hi
    have mx:=List.mem_of_getElem? zi
    have sT:=s3.trans' (Same.new (o:=.tup [.int i,.str x]) hTT)
    refine ⟨TT,_,rfl,SqT.of upd_same,rfl,_,_,rfl,_,_,rfl,rfl,?_⟩
    refine ⟨_,rfl,_,rfl,t,dx,kp,bt,n,m,rs,x,rfl,tab.mono sT,pa x mx,n12,fun gp' H4 hgp acc=>?_⟩
    obtain ⟨s4,as,ea,ta⟩:=acc
    have s04:=sT.trans' s4
    cases z:pgM rs 0 (ansG x n) with
    | nil =>
     rw [z] at ta
     have:as=[]:=List.length_eq_zero_iff.mp ta.1
     subst this
     refine ⟨false,.inl ⟨_,SqL.of ea,rfl⟩,iteF ⟨_,_,rfl,s04,fun y hy=>?_⟩⟩
     rw [List.take_add_one,zi] at hy
     rcases List.mem_append.mp hy with hy | hy
     ·exact st y hy
     ·rw [List.mem_singleton.mp hy]; exact stands_of z
    | cons k0 kt =>
     rw [z] at ta
     obtain ⟨q,r,rfl,nb⟩:=gap_mem (x:=x) (n:=n) (rs:=rs) (k:=k0) (by rw [z]; exact List.mem_cons_self)
     cases as with
     | nil=>exact absurd ta.1 (by simp)
     | cons a0 at' =>
      refine ⟨true,.inl ⟨_,SqL.of ea,rfl⟩,iteT ?_⟩
      refine ⟨_,rfl,_,rfl,len_le (show 3<=100 by decide),fun rp hrp=>?_⟩
      exact k3 pa h0 rp _ (s04.trans' (Same.new hrp)) (.inr ⟨i,i,x,x,upd_same,Nat.le_refl _,zi,zi,q,r,nb.2.1,nb.2.2.1,nb.2.2.2.1,nb.2.2.2.2.1,nb.2.2.2.2.2⟩)
  ·rintro σ H3 ⟨v2,v3,rfl,s3,st⟩
   rw [List.length_map,List.take_length] at st
   exact ⟨_,rfl,_,rfl,t,dx,kp,bt,pl,n,m,rs,ps,rfl,tab.mono s3,s3 _ _ epl,(fun x hx=>⟨pa x hx,st x hx⟩),l100,n1,n12,h0,hrs,fun p H' s' mt=>k3 pa h0 p H' (s3.trans' s') mt⟩
end
end K63
namespace K63
open PySem L2
open PyProof.Rows (envOfC)
abbrev s_filled:Stmt:=top 32
section
variable {P:Program}{w:World}{K:PySem.W.Frag}{mg:Str->Option Value}{base:Heap}{C fi fa ft fy fm fc:Addr}{gi ga gt gy gm gc:FuncData}
end
end K63
namespace K63
open PySem L2
open PyProof.Rows (envOfC)
section
variable {P:Program}{w:World}{K:PySem.W.Frag}{mg:Str->Option Value}{base:Heap}{C fi fa ft fy fm fc:Addr}{gi ga gt gy gm gc:FuncData}{W BC BS fW fC fS:Addr}{gW gC gS:FuncData}
def spFilled (C BC BS:Addr):Sp:=fun vs H Q E=>∃(t dx kp bt:Addr) (n m:Nat) (rs:List Str) (x:Str),vs=[.ref t,.str x]/\TabAt C H t dx kp bt n m rs/\x.length<=100/\1<=n/\n<=12/\(∀ y∈rs,Row n y) /\
 (¬ Pat n x->Ref H E BC "bad pattern")/\(Pat n x->rs=[]->Ref H E BS "empty") /\
 (Pat n x->rs≠[]->(∀ z p H',Row n z->Borne rs n z->(∀ i,i < n->¬ ch x i=45->ch z i=ch x i)->Same H H'->H' p=some (.tup [.str "row",.str z])->Q (.ref p) H') /\
  (∀(q r:Nat) p H',Nobody rs n x q r->Same H H'->H' p=some (.tup [.str "nobody",.int q,.int r])->Q (.ref p) H'))
abbrev Nfl:List Str:=["table", "pattern", "missing", "q", "r"]
theorem sc_filled:FnScope Nfl Pgp (defScope s_filled):=⟨rfl,rfl,rfl,by decide +kernel,rfl,by decide +kernel,by decide +kernel⟩
theorem ok_filled {f fp fc' fg fl:Addr}{fd gp gc' gg gl:FuncData}(D:Df K mg "filled" s_filled Pgp f fd) (Dp:Df K mg "check_pattern" s_cpat Pip fp gp) (Gp:FnOk P w K mg base (CXE P w) 4 fp gp Pip (spCpat BC)) (Dc:Df K mg "check_filled" s_cfilled ["table"] fc' gc') (Dg:Df K mg "gaps" s_gaps Pgp fg gg) (Gg:FnOk P w K mg base (CXE P w) 5 fg gg Pgp (spGaps C)) (Dl:Df K mg "fill" s_fill Pgp fl gl) (Gl':FnOk P w K mg base (CXE P w) 5 fl gl Pgp (spFill C)) (T:Tb K mg C fi fa ft fy fm fc gi ga gt gy gm gc) (X:Xs K mg W BC BS fW fC fS gW gC gS) (M:Gm mg):FnOk P w K mg base (CXE P w) 6 f fd Pgp (spFilled C BC BS):=by
 refine D.F.okE sc_filled (fun vs H Q E h=>?_) (fun cdv A outer s H vs Q E hr h=>?_)
 ·obtain ⟨t,dx,kp,bt,n,m,rs,x,rfl,_⟩:=h
  rfl
 ·obtain ⟨t,dx,kp,bt,n,m,rs,x,rfl,tab,hx,n1,n12,hrs,k1,k2,k3⟩:=h
  refine ⟨_,pss_cons (ps_expr (pe_fn Dp Gp (hr.mono (by decide)) passE (pa_cons (pv 1) (pa_cons (pe_fld (pv 0) rfl) pa_nil))))
   (pss_cons (ps_expr (pe_fn Dc (ok_cfil Dc T X M) (hr.mono (by decide)) passE (pa_cons (pv 0) pa_nil)))
   (pss_cons (ps_set (i:=2) sc_filled.nd rfl (Or.inl rfl) (pe_fn Dg Gg hr passN (pa_cons (pv 0) (pa_cons (pv 1) pa_nil))))
   (pss_cons (ps_if (pt_truth (pv 2) (fun _=>rfl)) (pss_cons (ps_asg (pe_ix ix_list (pv 2) pe_int (fun _ _=>rfl)) (pg_tup rfl (pgs_cons (pg_name (i:=3) sc_filled.nd rfl (Or.inl rfl)) (pgs_cons (pg_name (i:=4) sc_filled.nd rfl (Or.inl rfl)) pgs_nil)))) (pss_one (ps_ret (pe_tup (pa_cons pe_str (pa_cons (pv 3) (pa_cons (pv 4) pa_nil))))))) pss_nil)
   (pss_one (ps_ret (pe_tup (pa_cons pe_str (pa_cons (pe_fn Dl Gl' hr passN (pa_cons (pv 0) (pa_cons (pv 1) pa_nil))) pa_nil)))))))),?_⟩
  refine ⟨_,rfl,_,rfl,t,C,dx,_,_,rfl,tab.ins,T.cl,T.nQ,rfl,x,n,rfl,hx,n1,n12,?_⟩
  by_cases hp:Pat n x
  case neg=>exact .inr ⟨hp,k1 hp⟩
  refine .inl ⟨hp,fun H1 s1'=>?_⟩
  refine ⟨_,rfl,t,dx,kp,bt,n,m,rs,rfl,tab.mono s1',?_⟩
  by_cases h0:rs=[]
  case pos=>exact .inr ⟨h0,(k2 hp h0).same s1'⟩
  obtain ⟨kr,kn⟩:=k3 hp h0
  refine .inl ⟨h0,?_⟩
  refine ⟨_,rfl,_,rfl,t,dx,kp,bt,n,m,rs,x,rfl,tab.mono s1',hp,n12,fun p H2 hpp a=>?_⟩
  cases z:pgM rs 0 (ansG x n) with
  | nil =>
   rw [z] at a
   have hS:=stands_of z
   obtain ⟨s2,rs',e,t'⟩:=a
   have:rs'=[]:=List.length_eq_zero_iff.mp t'.1
   subst this
   have s12:=s1'.trans' s2
   refine ⟨_,rfl,false,.inl ⟨_,SqL.of e,rfl⟩,iteF ?_⟩
   refine ⟨_,rfl,_,rfl,t,dx,kp,bt,n,m,rs,x,rfl,tab.mono s12,hp,n12,hS,h0,hrs,fun z H3 hz Bz agr s3=>⟨len_le (show 2<=100 by decide),fun pt hpt=>?_⟩⟩
   exact kr z pt _ hz Bz agr (s12.trans' (s3.trans' (Same.new hpt))) upd_same
  | cons k0 kt =>
   rw [z] at a
   obtain ⟨q,r,rfl,nb⟩:=gap_mem (x:=x) (n:=n) (rs:=rs) (k:=k0) (by rw [z]; exact List.mem_cons_self)
   obtain ⟨s2,rs',e,t'⟩:=a
   have s12:=s1'.trans' s2
   cases rs' with
   | nil=>exact absurd t'.1 (by simp)
   | cons a0 at' =>
    have e0:=t'.2 0 a0 (qk q r) rfl rfl
    refine ⟨_,rfl,true,.inl ⟨_,SqL.of e,rfl⟩,iteT ?_⟩
    refine ⟨_,rfl,p,_,_,_,rfl,rfl,SqL.of e,atI_nat (j:=0) rfl,a0,_,rfl,SqT.of e0,rfl,_,_,rfl,_,_,rfl,rfl,?_⟩
    refine ⟨_,rfl,_,rfl,len_le (show 3<=100 by decide),fun pt hpt=>?_⟩
    exact kn q r pt _ nb (s12.trans' (Same.new hpt)) upd_same
end
end K63
namespace L2
open PySem PySem.Spec PyProof.Rows
theorem sorted_eq {α:Type}{R:α->α->Prop}(irr:∀ a,¬ R a a) (asy:∀ a b,R a b->¬ R b a):∀{l1 l2:List α},l1.Pairwise R->l2.Pairwise R->(∀ a,a∈l1↔a∈l2)->l1=l2
 | [],[],_,_,_=>rfl
 | [],b :: s,_,_,h=>absurd ((h b).mpr List.mem_cons_self) (by simp)
 | a :: r,[],_,_,h=>absurd ((h a).mp List.mem_cons_self) (by simp)
 | a :: r,b :: s,h1,h2,h=>by
  obtain ⟨a1,r1⟩:=List.pairwise_cons.mp h1
  obtain ⟨b2,s2⟩:=List.pairwise_cons.mp h2
  have e:a=b:=by
   rcases List.mem_cons.mp ((h a).mp List.mem_cons_self) with e | ha
   ·exact e
   ·rcases List.mem_cons.mp ((h b).mpr List.mem_cons_self) with e | hb
    ·exact e.symm
    ·exact absurd (b2 a ha) (asy a b (a1 b hb))
  subst e
  congr 1
  refine sorted_eq irr asy r1 s2 fun c=>⟨fun hc=>?_,fun hc=>?_⟩
  ·rcases List.mem_cons.mp ((h c).mp (List.mem_cons_of_mem _ hc)) with e | hs
   ·rw [e] at hc; exact absurd (a1 a hc) (irr a)
   ·exact hs
  ·rcases List.mem_cons.mp ((h c).mpr (List.mem_cons_of_mem _ hc)) with e | hs
   ·rw [e] at hc; exact absurd (b2 a hc) (irr a)
   ·exact hs
def Bef (n:Nat) (x y:Str):Prop:=∃ i,i < n/\(∀ j,j < i->ch x j=ch y j)/\ch x i < ch y i
theorem Bef.irr {n:Nat}(x:Str):¬ Bef n x x:=fun ⟨i,_,_,h⟩=>Nat.lt_irrefl _ h
theorem Bef.asy {n:Nat}(x y:Str) (h:Bef n x y):¬ Bef n y x:=by
 obtain ⟨i,hi,e,l⟩:=h
 rintro ⟨j,hj,e',l'⟩
 rcases Nat.lt_trichotomy i j with z | z | z
 ·have:=e' i z; omega
 ·subst z; omega
 ·have:=e j z; omega
theorem bef_eq {n:Nat}{l1 l2:List Str}(h1:l1.Pairwise (Bef n)) (h2:l2.Pairwise (Bef n)) (h:∀ a,a∈l1↔a∈l2):l1=l2:=sorted_eq Bef.irr Bef.asy h1 h2 h
theorem str_ext {n:Nat}{x y:Str}(hx:x.length=n) (hy:y.length=n) (h:∀ i,i < n->ch x i=ch y i):x=y:=by
 rw [row_tx hx,row_tx hy]
 exact tx_congr h
def Goes (rs:List Str) (k:Nat) (t:Str) (a:Nat):Prop:=(∀ q,q < k->0 < cntB rs q (ch t q) k a)/\0 < cntB rs k a k a
noncomputable def rulS (rs:List Str) (k:Nat) (t:Str) (a:Nat):List Str:=open Classical in if Goes rs k t a then [tx (k + 1) (fun i=>if i < k then ch t i else a)] else []
noncomputable def rulF (rs:List Str) (k:Nat) (t:Str):List Str:=rulS rs k t 110 ++ rulS rs k t 121
noncomputable def rul (rs:List Str):Nat->List Str
 | 0=>[⟨#[]⟩]
 | k + 1=>(rul rs k).flatMap (rulF rs k)
theorem mem_rulS {rs:List Str}{k a:Nat}{t z:Str}:z∈rulS rs k t a↔Goes rs k t a/\z=tx (k + 1) (fun i=>if i < k then ch t i else a):=by
 unfold rulS
 split
 ·rename_i h; exact ⟨fun w=>⟨h,List.mem_singleton.mp w⟩,fun w=>List.mem_singleton.mpr w.2⟩
 ·rename_i h; exact ⟨(fun w=>by cases w),(fun w=>absurd w.1 h)⟩
theorem mem_rulF {rs:List Str}{k:Nat}{t z:Str}:z∈rulF rs k t↔∃ a,(a=110∨a=121)/\Goes rs k t a/\z=tx (k + 1) (fun i=>if i < k then ch t i else a):=by
 unfold rulF
 rw [List.mem_append,mem_rulS,mem_rulS]
 exact ⟨fun h=>h.elim (fun h=>⟨110,.inl rfl,h⟩) (fun h=>⟨121,.inr rfl,h⟩),fun ⟨a,ha,h⟩=>ha.elim (fun e=>by subst e; exact .inl h) (fun e=>by subst e; exact .inr h)⟩
theorem rul_mem {rs:List Str}:∀{k:Nat}{z:Str},z∈rul rs k↔Row k z/\Borne rs k z
 | 0,z=>by
  constructor
  ·intro h
   rw [List.mem_singleton.mp h]
   exact ⟨⟨rfl,fun i hi=>by omega⟩,fun q r hq=>by omega⟩
  ·rintro ⟨h,_⟩
   refine List.mem_singleton.mpr ?_
   exact str_ext h.len rfl fun i hi=>by omega
 | k + 1,z=>by
  show z∈(rul rs k).flatMap (rulF rs k)↔_
  rw [List.mem_flatMap]
  constructor
  ·rintro ⟨t,ht,hz⟩
   obtain ⟨rt,bt⟩:=rul_mem.mp ht
   obtain ⟨a,ha,⟨g1,g2⟩,rfl⟩:=mem_rulF.mp hz
   have c1:∀ i,i < k->ch (tx (k + 1) (fun i=>if i < k then ch t i else a)) i=ch t i:=fun i hi=>by rw [ch_tx (by omega),if_pos hi]
   have c2:ch (tx (k + 1) (fun i=>if i < k then ch t i else a)) k=a:=by rw [ch_tx (by omega),if_neg (by omega)]
   refine ⟨⟨tx_len _ _,fun i hi=>?_⟩,fun q r hq hr=>?_⟩
   ·by_cases h:i < k
    ·rw [c1 i h]; exact rt.bin i h
    ·rw [show i=k by omega,c2]; omega
   ·by_cases h:q < k
    ·by_cases h':r < k
     ·rw [c1 q h,c1 r h']; exact bt q r h h'
     ·rw [show r=k by omega,c1 q h,c2]; exact g1 q h
    ·by_cases h':r < k
     ·rw [show q=k by omega,c1 r h',c2,cntB_comm]; exact g1 r h'
     ·rw [show q=k by omega,show r=k by omega,c2]; exact g2
  ·rintro ⟨rz,bz⟩
   have c1:∀ i,i < k->ch (tx k (ch z)) i=ch z i:=fun i hi=>ch_tx hi
   refine ⟨tx k (ch z),rul_mem.mpr ⟨⟨tx_len _ _,fun i hi=>by rw [c1 i hi]; exact rz.bin i (by omega)⟩,fun q r hq hr=>by rw [c1 q hq,c1 r hr]; exact bz q r (by omega) (by omega)⟩,mem_rulF.mpr ⟨ch z k,by have:=rz.bin k (by omega); omega,⟨fun q hq=>by rw [c1 q hq]; exact bz q k (by omega) (by omega),bz k k (by omega) (by omega)⟩,?_⟩⟩
   refine str_ext rz.len (tx_len _ _) fun i hi=>?_
   rw [ch_tx hi]
   by_cases h:i < k
   ·rw [if_pos h,c1 i h]
   ·rw [if_neg h,show i=k by omega]
theorem rul_sorted {rs:List Str}:∀ k,(rul rs k).Pairwise (Bef k)
 | 0=>List.pairwise_singleton _ _
 | k + 1=>by
  refine List.pairwise_flatMap.mpr ⟨fun t ht=>?_,?_⟩
  ·unfold rulF
   refine List.pairwise_append.mpr ⟨?_,?_,fun x hx y hy=>?_⟩
   ·unfold rulS; split
    ·exact List.pairwise_singleton _ _
    ·exact List.Pairwise.nil
   ·unfold rulS; split
    ·exact List.pairwise_singleton _ _
    ·exact List.Pairwise.nil
   ·obtain ⟨_,rfl⟩:=mem_rulS.mp hx
    obtain ⟨_,rfl⟩:=mem_rulS.mp hy
    refine ⟨k,by omega,fun j hj=>?_,?_⟩
    ·rw [ch_tx (by omega),ch_tx (by omega),if_pos hj,if_pos hj]
    ·rw [ch_tx (by omega),ch_tx (by omega),if_neg (by omega),if_neg (by omega)]; decide
  ·refine (rul_sorted k).imp fun {t t'} h x hx y hy=>?_
   obtain ⟨i,hi,e,l⟩:=h
   obtain ⟨a,_,_,rfl⟩:=mem_rulF.mp hx
   obtain ⟨b,_,_,rfl⟩:=mem_rulF.mp hy
   refine ⟨i,by omega,fun j hj=>?_,?_⟩
   ·rw [ch_tx (by omega),ch_tx (by omega),if_pos (by omega),if_pos (by omega)]; exact e j hj
   ·rw [ch_tx (by omega),ch_tx (by omega),if_pos hi,if_pos hi]; exact l
noncomputable def mtS (rs:List Str) (n:Nat) (p:Str) (q a:Nat):List Str:=open Classical in if Fits rs n p q a then [tx n (setC p q a)] else []
noncomputable def mtF (rs:List Str) (n q:Nat) (p:Str):List Str:=mtS rs n p q 110 ++ mtS rs n p q 121
theorem mem_mtS {rs:List Str}{n q a:Nat}{p z:Str}:z∈mtS rs n p q a↔Fits rs n p q a/\z=tx n (setC p q a):=by
 unfold mtS
 split
 ·rename_i h; exact ⟨fun w=>⟨h,List.mem_singleton.mp w⟩,fun w=>List.mem_singleton.mpr w.2⟩
 ·rename_i h; exact ⟨(fun w=>by cases w),(fun w=>absurd w.1 h)⟩
theorem mem_mtF {rs:List Str}{n q:Nat}{p z:Str}:z∈mtF rs n q p↔∃ a,(a=110∨a=121)/\Fits rs n p q a/\z=tx n (setC p q a):=by
 unfold mtF
 rw [List.mem_append,mem_mtS,mem_mtS]
 exact ⟨fun h=>h.elim (fun h=>⟨110,.inl rfl,h⟩) (fun h=>⟨121,.inr rfl,h⟩),fun ⟨a,ha,h⟩=>ha.elim (fun e=>by subst e; exact .inl h) (fun e=>by subst e; exact .inr h)⟩
structure Parts (rs:List Str) (n:Nat) (x:Str) (ds:List Nat) (ps:List Str):Prop where
 sorted:ps.Pairwise (Bef n)
 mem:∀ z,z∈ps↔z.length=n/\(∀ i,i < n->i∈ds->ch z i=121∨ch z i=110)/\(∀ i,i < n->i∉ds->ch z i=ch x i)/\Stands rs n z
theorem Parts.start {rs:List Str}{n:Nat}{x:Str}(hx:x.length=n) (hS:Stands rs n x):Parts rs n x [] [x]:=by
 refine ⟨List.pairwise_singleton _ _,fun z=>⟨fun h=>?_,fun h=>?_⟩⟩
 ·rw [List.mem_singleton.mp h]
  exact ⟨hx,(fun i _ h=>by cases h),(fun i _ _=>rfl),hS⟩
 ·exact List.mem_singleton.mpr (str_ext h.1 hx fun i hi=>h.2.2.1 i hi (by simp))
theorem Parts.step {rs:List Str}{n q:Nat}{x:Str}{ds:List Nat}{ps:List Str}(h:Parts rs n x ds ps) (hq:q < n) (hx:ch x q=45) (hd:∀ i∈ds,i < q):Parts rs n x (ds ++ [q]) (ps.flatMap (mtF rs n q)):=by
 have nq:q∉ds:=fun z=>Nat.lt_irrefl _ (hd q z)
 refine ⟨List.pairwise_flatMap.mpr ⟨fun p hp=>?_,?_⟩,fun z=>?_⟩
 ·unfold mtF
  refine List.pairwise_append.mpr ⟨?_,?_,fun a ha b hb=>?_⟩
  ·unfold mtS; split
   ·exact List.pairwise_singleton _ _
   ·exact List.Pairwise.nil
  ·unfold mtS; split
   ·exact List.pairwise_singleton _ _
   ·exact List.Pairwise.nil
  ·obtain ⟨_,rfl⟩:=mem_mtS.mp ha
   obtain ⟨_,rfl⟩:=mem_mtS.mp hb
   refine ⟨q,hq,fun j hj=>?_,?_⟩
   ·rw [ch_tx (by omega),ch_tx (by omega)]
    unfold setC
    rw [if_neg (by omega),if_neg (by omega)]
   ·rw [ch_tx hq,ch_tx hq]
    unfold setC
    rw [if_pos rfl,if_pos rfl]
    decide
 ·refine (List.pairwise_iff_forall_sublist.mpr fun {p p'} hs=>?_)
  have b:=List.pairwise_iff_forall_sublist.mp h.sorted hs
  have mp:p∈ps:=hs.subset (by simp)
  have mp':p'∈ps:=hs.subset (by simp)
  obtain ⟨i,hi,e,l⟩:=b
  have iq:i < q:=by
   apply Classical.byContradiction
   intro z
   have:i∉ds:=fun w=>z (hd i w)
   have e1:=((h.mem p).mp mp).2.2.1 i hi this
   have e2:=((h.mem p').mp mp').2.2.1 i hi this
   omega
  intro a ha b hb
  obtain ⟨_,_,_,rfl⟩:=mem_mtF.mp ha
  obtain ⟨_,_,_,rfl⟩:=mem_mtF.mp hb
  refine ⟨i,hi,fun j hj=>?_,?_⟩
  ·rw [ch_tx (by omega),ch_tx (by omega)]
   unfold setC
   rw [if_neg (by omega),if_neg (by omega)]
   exact e j hj
  ·rw [ch_tx hi,ch_tx hi]
   unfold setC
   rw [if_neg (by omega),if_neg (by omega)]
   exact l
 ·rw [List.mem_flatMap]
  constructor
  ·rintro ⟨p,hp,hz⟩
   obtain ⟨l1,l2,l3,l4⟩:=(h.mem p).mp hp
   obtain ⟨a,ha,hf,rfl⟩:=mem_mtF.mp hz
   refine ⟨tx_len _ _,fun i hi hm=>?_,fun i hi hm=>?_,fit_set l4 hq hf⟩
   ·rw [ch_tx hi]
    unfold setC
    split
    ·omega
    ·rename_i ne
     refine l2 i hi ?_
     rcases List.mem_append.mp hm with hm | hm
     ·exact hm
     ·exact absurd (List.mem_singleton.mp hm) ne
   ·have ne:¬ i=q:=fun z=>hm (List.mem_append_right _ (List.mem_singleton.mpr z))
    rw [ch_tx hi]
    unfold setC
    rw [if_neg ne]
    exact l3 i hi fun w=>hm (List.mem_append_left _ w)
  ·rintro ⟨l1,l2,l3,l4⟩
   have sq:ch z q=121∨ch z q=110:=l2 q hq (List.mem_append_right _ (List.mem_singleton.mpr rfl))
   have c1:∀ i,i < n->¬ i=q->ch (tx n (setC z q 45)) i=ch z i:=fun i hi ne=>by rw [ch_tx hi]; unfold setC; rw [if_neg ne]
   have c2:ch (tx n (setC z q 45)) q=45:=by rw [ch_tx hq]; unfold setC; rw [if_pos rfl]
   refine ⟨tx n (setC z q 45),(h.mem _).mpr ⟨tx_len _ _,fun i hi hm=>?_,fun i hi hm=>?_,fun i j hi hj h1 h2=>?_⟩,mem_mtF.mpr ⟨ch z q,by omega,⟨l4 q q hq hq (by omega) (by omega),fun r hr hn=>?_⟩,?_⟩⟩
   ·rw [c1 i hi (fun w=>nq (w ▸ hm))]
    exact l2 i hi (List.mem_append_left _ hm)
   ·by_cases ne:i=q
    ·rw [ne,c2,hx]
    ·rw [c1 i hi ne]
     exact l3 i hi fun w=>(List.mem_append.mp w).elim hm fun w=>ne (List.mem_singleton.mp w)
   ·have ni:¬ i=q:=fun w=>h1 (by rw [w]; exact c2)
    have nj:¬ j=q:=fun w=>h2 (by rw [w]; exact c2)
    rw [c1 i hi ni] at h1 ⊢
    rw [c1 j hj nj] at h2 ⊢
    exact l4 i j hi hj h1 h2
   ·have nr:¬ r=q:=fun w=>hn (by rw [w]; exact c2)
    rw [c1 r hr nr] at hn ⊢
    exact l4 q r hq hr (by omega) hn
   ·refine str_ext l1 (tx_len _ _) fun i hi=>?_
    rw [ch_tx hi]
    by_cases ne:i=q
    ·unfold setC; rw [if_pos ne,ne]
    ·have:=c1 i hi ne
     unfold setC
     rw [if_neg ne]
     exact this.symm
theorem Parts.done {rs:List Str}{n:Nat}{x:Str}{ds:List Nat}{ps:List Str}(h:Parts rs n x ds ps) (hx:Pat n x) (hd:∀ i,i < n->(i∈ds↔ch x i=45)) (m:Str->Bool) (hm:∀ z,m z=true↔∀ i,i < n->ch x i=45∨ch x i=ch z i):ps=(rul rs n).filter m:=by
 refine bef_eq h.sorted ((rul_sorted n).filter _) fun z=>?_
 rw [h.mem,List.mem_filter,rul_mem,hm]
 constructor
 ·rintro ⟨l1,l2,l3,l4⟩
  have bin:∀ i,i < n->ch z i=121∨ch z i=110:=fun i hi=>by
   by_cases w:i∈ds
   ·exact l2 i hi w
   ·have:=hx.sgn i hi
    have nd:¬ ch x i=45:=fun z=>w ((hd i hi).mpr z)
    rw [l3 i hi w]
    omega
  refine ⟨⟨⟨l1,bin⟩,fun q r hq hr=>l4 q r hq hr (by have:=bin q hq; omega) (by have:=bin r hr; omega)⟩,fun i hi=>?_⟩
  by_cases w:i∈ds
  ·exact .inl ((hd i hi).mp w)
  ·exact .inr (l3 i hi w).symm
 ·rintro ⟨⟨rz,bz⟩,mt⟩
  refine ⟨rz.len,fun i hi _=>rz.bin i hi,fun i hi w=>?_,fun q r hq hr _ _=>bz q r hq hr⟩
  rcases mt i hi with e | e
  ·exact absurd ((hd i hi).mpr e) w
  ·exact e.symm
theorem none_match {rs:List Str}{n:Nat}{x:Str}(hn:¬ pgM rs 0 (ansG x n)=[]) (m:Str->Bool) (hm:∀ z,m z=true↔∀ i,i < n->ch x i=45∨ch x i=ch z i):(rul rs n).filter m=[]:=by
 refine List.eq_nil_iff_forall_not_mem.mpr fun z hz=>hn (gaps_nil fun q r hq hr h1 h2=>?_)
 obtain ⟨hr',hz⟩:=List.mem_filter.mp hz
 obtain ⟨rz,bz⟩:=rul_mem.mp hr'
 have mt:=(hm z).mp hz
 rw [(mt q hq).resolve_left h1,(mt r hr).resolve_left h2]
 exact bz q r hq hr
end L2
namespace K63
open PySem L2
open PyProof.Rows (envOfC)
abbrev s_matching:Stmt:=top 31
def mB (x:Str) (n:Nat) (z:Str):Bool:=(List.range n).all fun i=>decide (ch x i=45∨ch x i=ch z i)
theorem mB_iff {x:Str}{n:Nat}(z:Str):mB x n z=true↔∀ i,i < n->ch x i=45∨ch x i=ch z i:=by
 unfold mB
 rw [List.all_eq_true]
 exact ⟨fun h i hi=>of_decide_eq_true (h i (List.mem_range.mpr hi)),fun h i hi=>decide_eq_true (h i (List.mem_range.mp hi))⟩
noncomputable def mL (rs:List Str) (x:Str) (n:Nat):List Str:=(rul rs n).filter (mB x n)
theorem opn_sorted (x:Str):∀ n,(opnL x n).Pairwise (· < ·)
 | 0=>List.Pairwise.nil
 | n + 1=>by
  rw [opn_succ]
  refine List.pairwise_append.mpr ⟨opn_sorted x n,?_,fun a ha b hb=>?_⟩
  ·unfold opnF; split
   ·exact List.pairwise_singleton _ _
   ·exact List.Pairwise.nil
  ·have:=(opn_mem.mp ha).1
   unfold opnF at hb
   split at hb
   ·rw [List.mem_singleton.mp hb]; exact this
   ·cases hb
theorem opn_before {x:Str}{n j q:Nat}(h:(opnL x n)[j]? = some q):∀ i∈(opnL x n).take j,i < q:=by
 intro i hi
 have s:=opn_sorted x n
 have e:opnL x n=(opnL x n).take j ++ (opnL x n).drop j:=(List.take_append_drop _ _).symm
 rw [e] at s
 refine (List.pairwise_append.mp s).2.2 i hi q ?_
 have:=List.mem_of_getElem? (l:=(opnL x n).drop j) (i:=0) (a:=q) (by rw [List.getElem?_drop]; simpa using h)
 exact this
theorem mtF_len (rs:List Str) (n q:Nat) (p:Str):(mtF rs n q p).length<=2:=by
 unfold mtF mtS
 rw [List.length_append]
 split <;> split <;> simp
noncomputable def mtP (rs:List Str) (n:Nat) (p:Str) (q:Nat):Nat->List Str
 | 0=>[]
 | 1=>mtS rs n p q 110
 | _=>mtF rs n q p
theorem mtP_len (rs:List Str) (n:Nat) (p:Str) (q j:Nat):(mtP rs n p q j).length<=2:=by
 match j with
 | 0=>exact Nat.zero_le _
 | 1=>show (mtS rs n p q 110).length<=2; unfold mtS; split <;> simp
 | j + 2=>exact mtF_len rs n q p
theorem fm_len {rs:List Str}{n q:Nat}:∀ l:List Str,(l.flatMap (mtF rs n q)).length<=2 * l.length
 | []=>Nat.le_refl _
 | p :: r=>by
  rw [List.flatMap_cons,List.length_append,List.length_cons]
  have:=fm_len (rs:=rs) (n:=n) (q:=q) r
  have:=mtF_len rs n q p
  omega
theorem pow12 {j:Nat}(h:j<=12):2 ^ j<=4096:=Nat.le_trans (Nat.pow_le_pow_right (by decide) h) (by decide)
theorem none_back {H H':Hp}{p:Addr}(s:Same H H') (h:H' p=none):H p=none:=by
 cases z:H p with
 | none=>rfl
 | some o=>rw [s _ _ z] at h; cases h
section
variable {P:Program}{w:World}{K:PySem.W.Frag}{mg:Str->Option Value}{base:Heap}{C fi fa ft fy fm fc:Addr}{gi ga gt gy gm gc:FuncData}{W BC BS fW fC fS:Addr}{gW gC gS:FuncData}
def spMatch (C BC:Addr):Sp:=fun vs H Q E=>∃(t dx kp bt:Addr) (n m:Nat) (rs:List Str) (x:Str),vs=[.ref t,.str x]/\TabAt C H t dx kp bt n m rs/\x.length<=100/\1<=n/\n<=12 /\
 (¬ Pat n x->Ref H E BC "bad pattern")/\(Pat n x->∀ p H',H p=none->Same H H'->H' p=some (.lst ((mL rs x n).map V.str))->(mL rs x n).length<=4096->Q (.ref p) H')
abbrev Nmt:List Str:=["table", "pattern", "parts", "question"]
theorem sc_match:FnScope Nmt Pgp (defScope s_matching):=⟨rfl,rfl,rfl,by decide +kernel,rfl,by decide +kernel,by decide +kernel⟩
abbrev Nmc:List Str:=["part", "sign", "question", "table"]
theorem nd_mc:Nmc.Nodup:=by decide +kernel
theorem ok_match {f fg fp fo ff fw:Addr}{fd gg gp go gf gw:FuncData}(D:Df K mg "matching" s_matching Pgp f fd) (Dp:Df K mg "check_pattern" s_cpat Pip fp gp) (Gp:FnOk P w K mg base (CXE P w) 4 fp gp Pip (spCpat BC)) (Dg:Df K mg "gaps" s_gaps Pgp fg gg) (Gg:FnOk P w K mg base (CXE P w) 5 fg gg Pgp (spGaps C)) (Do:Df K mg "open_places" s_open ["pattern"] fo go)
  (Df':Df K mg "fits" s_fits Pft ff gf) (Gf:FnOk P w K mg base (CXE P w) 4 ff gf Pft (spFits C)) (Dw:Df K mg "with_answer" s_with Pwi fw gw) (T:Tb K mg C fi fa ft fy fm fc gi ga gt gy gm gc) (M:Gm mg):FnOk P w K mg base (CXE P w) 6 f fd Pgp (spMatch C BC):=by
 refine D.F.okE sc_match (fun vs H Q E h=>?_) (fun cdv A outer s H vs Q E hr h=>?_)
 ·obtain ⟨t,dx,kp,bt,n,m,rs,x,rfl,_⟩:=h
  rfl
 ·obtain ⟨t,dx,kp,bt,n,m,rs,x,rfl,tab,hx,n1,n12,k1,k2⟩:=h
  obtain ⟨tk,mS⟩:=M.signs
  refine ⟨_,pss_cons (ps_expr (pe_fn Dp Gp (hr.mono (by decide)) passE (pa_cons (pv 1) (pa_cons (pe_fld (pv 0) rfl) pa_nil))))
   (PSs.nox (pss_cons (ps_if (pt_truth (pe_fn Dg Gg hr passN (pa_cons (pv 0) (pa_cons (pv 1) pa_nil))) (fun _=>rfl)) (pss_one (ps_ret (pe_lst pa_nil))) pss_nil)
   (pss_cons (ps_set (i:=2) sc_match.nd rfl (Or.inl rfl) (pe_lst (pa_cons (pv 1) pa_nil)))
   (pss_cons (ps_for PassesOwn.never rfl (pi_list (pe_fn Do (ok_open Do M) (hr.mono (by decide)) passN (pa_cons (pv 1) pa_nil))) (pg_name (i:=3) sc_match.nd rfl (Or.inr rfl))
    (pss_one (ps_compN (i:=2) (N':=Nmc) (fm:=[none,none,some 3,some 0]) rfl sc_match.nd rfl rfl ⟨rfl,by decide +kernel,by decide +kernel,rfl,rfl,rfl⟩
     (pi_list (pv 2)) (fun _ _ _ _=>pg_name (i:=0) nd_mc rfl (Or.inl rfl)) (fun _ _ _ _=>pif_nil)
     (fun _ _ _ _ _=>pb_nest rfl (fun _ _ z=>z) (pi_str (pe_glob (v:=.str "ny") (by rfl) mS ⟨tk,rfl⟩)) (pg_name (i:=1) nd_mc rfl (Or.inl rfl))
      (pif_one (pt_val (pe_fn Df' Gf (hr.mono (by decide)) passN (pa_cons (pv 3) (pa_cons (pv 0) (pa_cons (pv 2) (pa_cons (pv 1) pa_nil)))))))
      (pb_emit (fun _ _ z=>z) (pe_fn Dw (ok_with Dw) (hr.mono (by decide)) passN (pa_cons (pv 0) (pa_cons (pv 2) (pa_cons (pv 1) pa_nil)))))))))
   (pss_one (ps_ret (pv 2))))))),?_⟩
  refine ⟨_,rfl,_,rfl,t,C,dx,_,_,rfl,tab.ins,T.cl,T.nQ,rfl,x,n,rfl,hx,n1,n12,?_⟩
  by_cases hp:Pat n x
  case neg=>exact .inr ⟨hp,k1 hp⟩
  refine .inl ⟨hp,fun H1 s1'=>?_⟩
  refine ⟨_,rfl,_,rfl,t,dx,kp,bt,n,m,rs,x,rfl,tab.mono s1',hp,n12,fun pg H2 hpg a2=>?_⟩
  obtain ⟨s2,as,e2,t2⟩:=a2
  have s02:=s1'.trans' s2
  cases z:pgM rs 0 (ansG x n) with
  | cons k0 kt =>
   rw [z] at t2
   have nm:mL rs x n=[]:=none_match (by rw [z]; simp) (mB x n) mB_iff
   cases as with
   | nil=>exact absurd t2.1 (by simp)
   | cons a0 at' =>
    refine ⟨true,.inl ⟨_,SqL.of e2,rfl⟩,iteT ⟨Nat.zero_le _,fun pe hpe=>?_⟩⟩
    refine k2 hp pe _ (none_back s02 hpe) (s02.trans' (Same.new hpe)) ?_ (by rw [nm]; exact Nat.zero_le _)
    rw [nm]
    exact upd_same
  | nil =>
   rw [z] at t2
   have:as=[]:=List.length_eq_zero_iff.mp t2.1
   subst this
   refine ⟨false,.inl ⟨_,SqL.of e2,rfl⟩,iteF ?_⟩
   refine ⟨_,rfl,len_le (show 1<=100 by decide),fun pl hpl=>?_⟩
   have sl:=Same.new (o:=.lst [.str x]) hpl
   refine ⟨_,rfl,x,n,rfl,hp.len,n12,fun po H4 hpo s4 eo=>⟨po,rfl,⟨_,SqL.of eo⟩,?_⟩⟩
   have s04:=s02.trans' (sl.trans' s4)
   refine for_list (K:=K) (a:=po) (xs:=(opnL x n).map vN) (fun j σ H5=>∃(v3:Option V) (pp:Addr) (ps:List Str),σ=[some (.ref t),some (.str x),some (.ref pp),v3]/\H pp=none/\Same H4 H5/\H5 pp=some (.lst (ps.map V.str))/\Parts rs n x ((opnL x n).take j) ps/\ps.length<=2 ^ j)
    ⟨none,pl,[x],rfl,none_back s02 hpl,Same.refl _,s4 _ _ upd_same,Parts.start hp.len (L2.stands_of z),Nat.le_refl _⟩ (fun j σ H5 _ ⟨_,_,_,_,_,s5,_⟩=>SqL.of (s5 _ _ eo)) ?_ ?_
   ·rintro j y σ H5 hj ⟨v3,pp,ps,rfl,hpp,s5,e5,pt,pl2⟩
    rw [List.getElem?_map] at hj
    cases zj:(opnL x n)[j]? with
    | none=>rw [zj] at hj; cases hj
    | some q =>
     rw [zj] at hj
     cases hj
     obtain ⟨hq,hxq⟩:=opn_mem.mp (List.mem_of_getElem? zj)
     have j12:j < 12:=by have:=(List.getElem?_eq_some_iff.mp zj).1; have:=opn_len x n; omega
     have tk:(opnL x n).take (j + 1)=(opnL x n).take j ++ [q]:=by rw [List.take_add_one,zj]; rfl
     refine ⟨_,rfl,pp,rfl,⟨_,SqL.of e5⟩,fun p2 hp2=>?_⟩
     refine lp_list (K:=K) (a:=pp) (xs:=ps.map V.str) (fun i σ H6=>∃ v0 v1,σ=[v0,v1,some (vN q),some (.ref t)]/\Same H5 H6/\H6 p2=some (.lst (((ps.take i).flatMap (mtF rs n q)).map V.str))) ⟨none,none,rfl,Same.new hp2,upd_same⟩ (fun i σ H6 _ ⟨_,_,_,s6,_⟩=>SqL.of (s6 _ _ e5)) ?_ ?_
     ·rintro i y σ H6 hi ⟨v0,v1,rfl,s6,e6⟩
      rw [List.getElem?_map] at hi
      cases zi:ps[i]? with
      | none=>rw [zi] at hi; cases hi
      | some part =>
       rw [zi] at hi
       cases hi
       have il:i < ps.length:=(List.getElem?_eq_some_iff.mp zi).1
       obtain ⟨l1,l2,l3,l4⟩:=(pt.mem part).mp (List.mem_of_getElem? zi)
       have hpart:Pat n part:=⟨l1,fun i hi=>by
        by_cases w:i∈(opnL x n).take j
        ·have:=l2 i hi w; omega
        ·rw [l3 i hi w]; exact hp.sgn i hi⟩
       refine lturn_all ?_
       refine ⟨_,rfl,?_⟩
       refine lp_str (x := "ny") (fun c σ H7=>∃ v1,σ=[some (.str part),v1,some (vN q),some (.ref t)]/\Same H5 H7/\H7 p2=some (.lst (((ps.take i).flatMap (mtF rs n q) ++ mtP rs n part q c).map V.str))) ⟨_,rfl,s6,by rw [show mtP rs n part q 0=[] from rfl,List.append_nil]; exact e6⟩ ?_ ?_
       ·rintro c σ H7 hc ⟨v1,rfl,s7,e7⟩
        have hc:c < 2:=by rw [show ("ny" : Str).length=2 by decide +kernel] at hc; exact hc
        have P1:mtP rs n part q (0 + 1)=mtP rs n part q 0 ++ mtS rs n part q 110:=rfl
        have P2:mtP rs n part q (1 + 1)=mtP rs n part q 1 ++ mtS rs n part q 121:=rfl
        have hc':c=0∨c=1:=by omega
        rcases hc' with rfl | rfl
        ·
         refine ⟨_,rfl,_,rfl,_,rfl,_,rfl,t,dx,kp,bt,n,m,rs,part,q,110,rfl,tab.mono (s04.trans' (s5.trans' s7)),hpart,n12,hq,.inr rfl,fun b H8 hb s8=>⟨_,rfl,?_⟩⟩
         cases b with
         | true =>
          refine iteT ⟨_,rfl,_,rfl,_,rfl,part,n,q,110,rfl,l1,hq,by omega,_,s8 _ _ e7,?_,_,rfl,Same.grow hp2 (s7.trans' s8),?_⟩
          ·have h1:=fm_len (rs:=rs) (n:=n) (q:=q) (ps.take i)
           have h2:=mtP_len rs n part q 0
           rw [List.length_take] at h1
           rw [List.length_map,List.length_append]
           have h3:=pow12 (show j<=12 by omega)
           exact Nat.lt_of_le_of_lt (show _<=9000 by omega) (by decide)
          ·have ef:mtS rs n part q 110=[tx n (setC part q 110)]:=if_pos (hb.mp rfl)
           rw [upd_same,P1,ef,<- List.append_assoc,List.map_append (l₂:=[tx n (setC part q 110)])]
           rfl
         | false =>
          have ef:mtS rs n part q 110=[]:=if_neg fun w=>by have:=hb.mpr w; cases this
          refine iteF ⟨_,rfl,s7.trans' s8,?_⟩
          rw [P1,ef,List.append_nil]
          exact s8 _ _ e7
        ·
         refine ⟨_,rfl,_,rfl,_,rfl,_,rfl,t,dx,kp,bt,n,m,rs,part,q,121,rfl,tab.mono (s04.trans' (s5.trans' s7)),hpart,n12,hq,.inl rfl,fun b H8 hb s8=>⟨_,rfl,?_⟩⟩
         cases b with
         | true =>
          refine iteT ⟨_,rfl,_,rfl,_,rfl,part,n,q,121,rfl,l1,hq,by omega,_,s8 _ _ e7,?_,_,rfl,Same.grow hp2 (s7.trans' s8),?_⟩
          ·have h1:=fm_len (rs:=rs) (n:=n) (q:=q) (ps.take i)
           have h2:=mtP_len rs n part q 1
           rw [List.length_take] at h1
           rw [List.length_map,List.length_append]
           have h3:=pow12 (show j<=12 by omega)
           exact Nat.lt_of_le_of_lt (show _<=9000 by omega) (by decide)
          ·have ef:mtS rs n part q 121=[tx n (setC part q 121)]:=if_pos (hb.mp rfl)
           rw [upd_same,P2,ef,<- List.append_assoc,List.map_append (l₂:=[tx n (setC part q 121)])]
           rfl
         | false =>
          have ef:mtS rs n part q 121=[]:=if_neg fun w=>by have:=hb.mpr w; cases this
          refine iteF ⟨_,rfl,s7.trans' s8,?_⟩
          rw [P2,ef,List.append_nil]
          exact s8 _ _ e7
       ·rintro σ H7 ⟨v1,rfl,s7,e7⟩
        refine ⟨_,_,rfl,s7,?_⟩
        rw [List.take_add_one,zi]
        show _=some (HO.lst (((ps.take i ++ [part]).flatMap (mtF rs n q)).map V.str))
        rw [List.flatMap_append]
        have e:mtP rs n part q ("ny" : Str).length=mtF rs n q part:=by rw [show ("ny" : Str).length=2 by decide +kernel]; rfl
        rw [e] at e7
        simpa using e7
     ·rintro σ H6 ⟨v0,v1,rfl,s6,e6⟩
      rw [List.length_map,List.take_length] at e6
      refine ⟨_,p2,ps.flatMap (mtF rs n q),rfl,none_back (s04.trans' s5) hp2,s5.trans' s6,e6,?_,?_⟩
      ·rw [tk]
       exact pt.step hq hxq (opn_before zj)
      ·have:=fm_len (rs:=rs) (n:=n) (q:=q) ps
       rw [Nat.pow_succ]
       omega
   ·rintro σ H5 ⟨v3,pp,ps,rfl,hpp,s5,e5,pt,pl2⟩
    rw [List.length_map,List.take_length] at pt
    have ed:ps=mL rs x n:=pt.done hp (fun i hi=>⟨fun h=>(opn_mem.mp h).2,fun h=>opn_mem.mpr ⟨hi,h⟩⟩) (mB x n) mB_iff
    rw [List.length_map] at pl2
    rw [ed] at e5 pl2
    exact ⟨_,rfl,k2 hp pp H5 hpp (s04.trans' s5) e5 (Nat.le_trans pl2 (pow12 (by have:=opn_len x n; omega)))⟩
end
end K63
namespace K63
open PySem L2
open PyProof.Rows (envOfC)
abbrev s_lbun:Stmt:=top 63
theorem in_iN (q:Nat) (L:List Nat):inV (iN q) (L.map iN)=decide (q∈L):=by
 unfold inV
 rw [List.any_map,Bool.eq_iff_iff,List.any_eq_true,decide_eq_true_iff]
 constructor
 ·rintro ⟨x,hx,e⟩
  have e:((x:Int) == (q:Int))=true:=e
  have e:(x:Int)=q:=by simpa using e
  have:x=q:=by omega
  rw [<- this]; exact hx
 ·intro h
  exact ⟨q,h,show ((q:Int) == (q:Int))=true by simp⟩
theorem flat_iN (L:List Nat):(L.map iN).all flatV=true:=by
 rw [List.all_map,List.all_eq_true]
 exact fun _ _=>rfl
theorem filt_snoc {α:Type}{p:α->Bool}{l:List α}{i:Nat}{a:α}(h:l[i]? = some a):(l.take (i + 1)).filter p=(l.take i).filter p ++ (if p a=true then [a] else []):=by
 rw [List.take_add_one,h,List.filter_append]
 congr 1
 cases z:p a <;> simp [z]
section
variable {P:Program}{w:World}{K:PySem.W.Frag}{mg:Str->Option Value}{base:Heap}{C fi fa ft fy fm fc:Addr}{gi ga gt gy gm gc:FuncData}
def spLbun (K:PySem.W.Frag):Sp:=fun vs H Q _=>∃(l:Addr) (n:Nat) (rs:List Str),vs=[.ref l,.int n]/\SqL K H l (rs.map V.str)/\(∀ x∈rs,Row n x)/\n<=12/\∀ p H',Buns H p H' (bnl rs n)->Q (.ref p) H'
abbrev N_lb:List Str:=["_law_rows_here", "_law_n", "_law_left", "_law_found", "_law_low", "_law_alike", "_law_apart_here"]
abbrev P_lb:List Str:=["_law_rows_here", "_law_n"]
theorem sc_lb:FnScope N_lb P_lb (defScope s_lbun):=⟨rfl,rfl,rfl,by decide +kernel,rfl,by decide +kernel,by decide +kernel⟩
abbrev N_lb1:List Str:=["_law_q", "_law_rows_here"]
theorem nd_lb1:N_lb1.Nodup:=by decide +kernel
abbrev N_lb2:List Str:=["_law_q", "_law_rows_here", "_law_low"]
theorem nd_lb2:N_lb2.Nodup:=by decide +kernel
abbrev N_lb3:List Str:=["_law_q", "_law_rows_here", "_law_low"]
theorem nd_lb3:N_lb3.Nodup:=by decide +kernel
abbrev N_lb4:List Str:=["_law_q", "_law_alike", "_law_apart_here"]
theorem nd_lb4:N_lb4.Nodup:=by decide +kernel
abbrev N_lb5:List Str:=["_law_q", "_law_alike", "_law_apart_here"]
theorem nd_lb5:N_lb5.Nodup:=by decide +kernel
theorem ok_lbun {f fb:Addr}{fd gb:FuncData}(D:Df K mg "_law_bundles" s_lbun P_lb f fd) (Db:Df K mg "_law_bears" s_bears Pbe fb gb) (B:Bt mg):FnOk P w K mg base (CXE P w) 2 f fd P_lb (spLbun K):=by
 refine D.F.okN sc_lb (fun vs H Q E h=>?_) (fun cdv A outer s H vs Q E hr h=>?_)
 ·obtain ⟨l,n,rs,rfl,_⟩:=h
  rfl
 ·obtain ⟨l,n,rs,rfl,hl,hrs,n12,k⟩:=h
  have hu:(A.deeper (envOfC "_law_bundles" (defScope s_lbun) s.heap.objs.size f cdv)).units < cLine:=hr.units0
  refine ⟨_,pss_cons (ps_comp (i:=2) (N':=N_lb1) (fm:=[none,some 0]) rfl sc_lb.nd rfl rfl ⟨rfl,by decide +kernel,by decide +kernel,rfl,rfl,rfl⟩ (pi_range1 (by rfl) B.range (pa_cons (pv 1) pa_nil)) (fun _ _ _ _=>(pg_name (i:=0) nd_lb1 rfl (Or.inl rfl))) (fun _ _ _ _=>(pif_one (PW.pt (pw_and (pt_cmpR (r:=rNeNil K) (op_neNil hu) (pv 1) (pe_lst pa_nil) (nomark _)) (pw_and (pt_val (pe_fn Db (ok_bears Db) (hr.mono (by decide)) passN (pa_cons (pv 1) (pa_cons (pv 0) (pa_cons pe_str (pa_cons (pv 0) (pa_cons pe_str pa_nil))))))) (pw_and1 (pt_val (pe_fn Db (ok_bears Db) (hr.mono (by decide)) passN (pa_cons (pv 1) (pa_cons (pv 0) (pa_cons pe_str (pa_cons (pv 0) (pa_cons pe_str pa_nil))))))))))))) (fun _ _ _ _=>(pv 0)))
   (pss_cons (ps_set (i:=3) sc_lb.nd rfl (Or.inl rfl) (pe_lst pa_nil))
   (pss_cons (ps_while PassesOwn.never (pt_cmpR (op_neNil hu) (pv 2) (pe_lst pa_nil) (nomark _))
   (pss_cons (ps_set (i:=4) sc_lb.nd rfl (Or.inr rfl) (pe_ix ix_list (pv 2) pe_int (fun _ _=>rfl)))
   (pss_cons (ps_set (i:=5) sc_lb.nd rfl (Or.inr rfl) (pe_comp (N':=N_lb2) (fm:=[none,some 0,some 4]) rfl ⟨rfl,by decide +kernel,by decide +kernel,rfl,rfl,rfl⟩ (pi_list (pv 2)) (fun _ _ _ _=>(pg_name (i:=0) nd_lb2 rfl (Or.inl rfl))) (fun _ _ _ _=>(pif_one (PW.pt (pw_and (pt_not (pt_val (pe_fn Db (ok_bears Db) (hr.mono (by decide)) passN (pa_cons (pv 1) (pa_cons (pv 2) (pa_cons pe_str (pa_cons (pv 0) (pa_cons pe_str pa_nil)))))))) (pw_and1 (pt_not (pt_val (pe_fn Db (ok_bears Db) (hr.mono (by decide)) passN (pa_cons (pv 1) (pa_cons (pv 2) (pa_cons pe_str (pa_cons (pv 0) (pa_cons pe_str pa_nil))))))))))))) (fun _ _ _ _=>(pv 0))))
   (pss_cons (ps_set (i:=6) sc_lb.nd rfl (Or.inr rfl) (pe_comp (N':=N_lb3) (fm:=[none,some 0,some 4]) rfl ⟨rfl,by decide +kernel,by decide +kernel,rfl,rfl,rfl⟩ (pi_list (pv 2)) (fun _ _ _ _=>(pg_name (i:=0) nd_lb3 rfl (Or.inl rfl))) (fun _ _ _ _=>(pif_one (PW.pt (pw_and (pt_not (pt_val (pe_fn Db (ok_bears Db) (hr.mono (by decide)) passN (pa_cons (pv 1) (pa_cons (pv 2) (pa_cons pe_str (pa_cons (pv 0) (pa_cons pe_str pa_nil)))))))) (pw_and1 (pt_not (pt_val (pe_fn Db (ok_bears Db) (hr.mono (by decide)) passN (pa_cons (pv 1) (pa_cons (pv 2) (pa_cons pe_str (pa_cons (pv 0) (pa_cons pe_str pa_nil))))))))))))) (fun _ _ _ _=>(pv 0))))
   (pss_cons (ps_expr (pe_bm PySem.F.plainAttrs_list PySem.F.slot_list_append PySem.F.type_list_append mt_append (pv 3) (pa_cons (pe_comp (N':=N_lb4) (fm:=[none,some 5,some 6]) rfl ⟨rfl,by decide +kernel,by decide +kernel,rfl,rfl,rfl⟩ (pi_list (pv 2)) (fun _ _ _ _=>(pg_name (i:=0) nd_lb4 rfl (Or.inl rfl))) (fun _ _ _ _=>(pif_one (PW.pt (pw_or (pt_cmpR (r:=rIn K false) op_in_seq (pv 0) (pv 1) (by rfl)) (pw_or1 (pt_cmpR (r:=rIn K false) op_in_seq (pv 0) (pv 2) (by rfl))))))) (fun _ _ _ _=>(pe_tup (pa_cons (pv 0) (pa_cons (pe_ifExp (pt_cmpR (r:=rIn K false) op_in_seq (pv 0) (pv 1) (by rfl)) pe_str pe_str) pa_nil))))) pa_nil)))
   (pss_one (ps_comp (i:=2) (N':=N_lb5) (fm:=[none,some 5,some 6]) rfl sc_lb.nd rfl rfl ⟨rfl,by decide +kernel,by decide +kernel,rfl,rfl,rfl⟩ (pi_list (pv 2)) (fun _ _ _ _=>(pg_name (i:=0) nd_lb5 rfl (Or.inl rfl))) (fun _ _ _ _=>(pif_one (PW.pt (pw_and (pt_cmpR (r:=rIn K true) op_notIn_seq (pv 0) (pv 1) (by rfl)) (pw_and1 (pt_cmpR (r:=rIn K true) op_notIn_seq (pv 0) (pv 2) (by rfl))))))) (fun _ _ _ _=>(pv 0)))))))))
   (pss_one (ps_ret (pv 3))))),?_⟩
  refine ⟨_,rfl,_,rfl,by omega,by omega,fun p0 hp0=>?_⟩
  have en:((n:Nat):Int).toNat=n:=by omega
  rw [en]
  have tkr:∀ i,i < n->(List.range n)[i]? = some i:=fun i hi=>List.getElem?_range hi
  have opE:∀ q,(decide (rs≠[]) && (decide (0 < cntB rs q 121 q 121) && decide (0 < cntB rs q 110 q 110)))=opB rs q:=fun q=>by
   unfold opB
   by_cases e:rs=[]
   ·subst e; rfl
   ·rw [decide_eq_true e,Bool.true_and,Bool.and_comm]
  have left0:leftL rs n 0=(List.range n).filter (opB rs):=by
   unfold leftL
   refine List.filter_congr fun r _=>?_
   rw [show (List.range 0).all (fun l=>!tgB rs l r)=true from rfl,Bool.and_true]
  refine blk_range (fun i σ H2=>∃ v,σ=[v,some (.ref l)]/\Same H H2/\H2 p0=some (.lst ((((List.range n).take i).filter (opB rs)).map iN))) ⟨none,rfl,Same.new hp0,upd_same⟩ ?_ ?_
  ·rintro i σ H2 hi ⟨v,rfl,s2,e2⟩
   rw [Int.zero_add]
   have no:∀{H3:Hp},Same H2 H3->opB rs i=false->∃ v,[some (V.int i),some (V.ref l)]=[v,some (.ref l)]/\Same H H3/\H3 p0=some (.lst ((((List.range n).take (i + 1)).filter (opB rs)).map iN)):=fun s3 f=>by
    refine ⟨_,rfl,s2.trans' s3,?_⟩
    rw [filt_snoc (tkr i hi),f]
    simpa using s3 _ _ e2
   refine ⟨_,rfl,Nat.zero_le _,fun pe hpe=>?_⟩
   have se:=Same.new (o:=.lst []) hpe
   refine ⟨l,pe,_,rfl,rfl,(s2.trans' se).seq hl,SqL.of upd_same,_,rfl,ite2 (fun z0=>?_) (fun z0=>?_)⟩
   ·have z0:(!(rs.map V.str).isEmpty)=true:=z0
    have z0:rs≠[]:=fun e=>by subst e; cases z0
    refine ⟨_,rfl,_,rfl,_,rfl,l,n,rs,i,121,i,121,rfl,(s2.trans' se).seq hl,hrs,n12,hi,hi,_,rfl,?_⟩
    cases c1:decide (0 < cntB rs i 121 i 121) with
    | false=>exact iteF (iteF (no se (by rw [<- opE,c1,Bool.false_and,Bool.and_false])))
    | true =>
     refine iteT ⟨_,rfl,_,rfl,_,rfl,l,n,rs,i,110,i,110,rfl,(s2.trans' se).seq hl,hrs,n12,hi,hi,_,rfl,?_⟩
     cases c2:decide (0 < cntB rs i 110 i 110) with
     | false=>exact iteF (no se (by rw [<- opE,c1,c2]; simp))
     | true =>
      have o:opB rs i=true:=by rw [<- opE,c1,c2,decide_eq_true z0]; rfl
      refine iteT ⟨_,rfl,_,se _ _ e2,?_,_,rfl,Same.grow hp0 (s2.trans' se),?_⟩
      ·rw [List.length_map]
       have:=List.length_filter_le (opB rs) ((List.range n).take i)
       rw [List.length_take,List.length_range] at this
       exact Nat.lt_of_le_of_lt (show _<=12 by omega) (by decide)
      ·rw [upd_same,filt_snoc (tkr i hi),o,if_pos rfl,List.map_append]
       rfl
   ·have z0:¬ (!(rs.map V.str).isEmpty)=true:=z0
    have z0:rs=[]:=by
     cases rs with
     | nil=>rfl
     | cons _ _=>exact absurd rfl z0
    exact iteF (no se (by rw [z0]; rfl))
  rintro σ H2 ⟨v,rfl,s2,e2⟩
  rw [show (List.range n).take n=List.range n from by rw [List.take_of_length_le]; rw [List.length_range]; exact Nat.le_refl _,<- left0] at e2
  refine ⟨Nat.zero_le _,fun pf hpf=>?_⟩
  have sf:=Same.new (o:=.lst []) hpf
  have pf0:H pf=none:=by
   cases z:H pf with
   | none=>rfl
   | some o=>rw [s2 _ _ z] at hpf; cases hpf
  refine ⟨fun m σ H3=>∃(k:Nat) (pl:Addr) (v4 v5 v6:Option V),σ=[some (.ref l),some (.int n),some (.ref pl),some (.ref pf),v4,v5,v6]/\k<=n/\pl≠pf/\Buns H pf H3 ((lows rs k).map (bun rs n))/\H3 pl=some (.lst ((leftL rs n k).map iN))/\m=(leftL rs n k).length,⟨_,0,p0,none,none,none,rfl,Nat.zero_le _,(fun e=>by rw [<- e,e2] at hpf; cases hpf),⟨s2.trans' sf,pf0,[],upd_same,rfl,(fun _ h=>by cases h),fun _ _ _ h=>by cases h⟩,sf _ _ e2,rfl⟩,?_⟩
  rintro m σ H3 ⟨k',pl,v4,v5,v6,rfl,kn,npf,b3,e3,rfl⟩
  refine ⟨_,rfl,Nat.zero_le _,fun pe hpe=>?_⟩
  have se:=Same.new (o:=.lst []) hpe
  refine ⟨pl,pe,_,rfl,rfl,se.seq (SqL.of e3),SqL.of upd_same,_,rfl,ite2 (fun z0=>?_) (fun z0=>?_)⟩
  case refine_2 =>
   have z0:¬ (!((leftL rs n k').map iN).isEmpty)=true:=z0
   have z0:leftL rs n k'=[]:=by
    cases z:leftL rs n k' with
    | nil=>rfl
    | cons _ _=>rw [z] at z0; exact absurd rfl z0
   have b4:=b3.mono se
   rw [<- left_done hrs kn z0] at b4
   exact ⟨_,rfl,k pf _ b4⟩
  have b4:=b3.mono se
  have e4:=se _ _ e3
  generalize upd H3 pe (.lst [])=H4 at *
  cases z:leftL rs n k' with
  | nil=>rw [z] at z0; exact absurd z0 (by decide)
  | cons low rest =>
  obtain ⟨ln,kl,ll,ls,lf,lm⟩:=left_head hrs kn z
  have L12:(leftL rs n k').length<=12:=by
   have:=List.length_filter_le (fun r=>opB rs r && (List.range k').all fun l=>!tgB rs l r) (List.range n)
   rw [List.length_range] at this
   exact Nat.le_trans this n12
  have L0:(leftL rs n k')[0]? = some low:=by rw [z]; rfl
  have dn:∀ c:Nat,(!decide (0 < c))=decide (c=0):=fun c=>by
   by_cases e:c=0
   ·rw [e]; rfl
   ·rw [decide_eq_true (show 0 < c by omega),decide_eq_false e]; rfl
  rw [<- z]
  refine ⟨fun σ' H'=>∃(pl:Addr) (v4 v5 v6:Option V),σ'=[some (.ref l),some (.int n),some (.ref pl),some (.ref pf),v4,v5,v6]/\pl≠pf/\Buns H pf H' ((lows rs (low + 1)).map (bun rs n))/\H' pl=some (.lst ((leftL rs n (low + 1)).map iN)),?_,?_⟩
  ·rintro σ' H' ⟨pl',v4',v5',v6',rfl,np',b',e'⟩
   refine ⟨_,?_,low + 1,pl',v4',v5',v6',rfl,ln,np',b',e',rfl⟩
   rw [<- lf]
   refine List.length_filter_lt_length_iff_exists.mpr ⟨low,List.mem_of_getElem? L0,?_⟩
   rw [ak_refl hrs ln]
   simp
  refine ⟨_,rfl,pl,_,_,_,rfl,rfl,SqL.of e4,(show atI _ ((0:Nat):Int)=some (iN low) from atI_nat (by rw [List.getElem?_map,L0]; rfl)),?_⟩
  refine ⟨_,rfl,pl,rfl,⟨_,SqL.of ((Same.refl H4) _ _ e4)⟩,fun pa hpa=>?_⟩
  refine blk_list (K:=K) (a:=pl) (xs:=(leftL rs n k').map iN) (fun i σ H5=>∃ v,σ=[v,some (.ref l),some (.int low)]/\Same H4 H5/\H5 pa=some (.lst ((((leftL rs n k').take i).filter (akB rs low)).map iN))) ⟨none,rfl,Same.new hpa,upd_same⟩ (fun i σ H5 _ ⟨_,_,s5,_⟩=>SqL.of (s5 _ _ ((Same.refl H4) _ _ e4))) ?_ ?_
  ·rintro i y σ H5 hi ⟨v,rfl,s5,e5⟩
   rw [List.getElem?_map] at hi
   cases zi:(leftL rs n k')[i]? with
   | none=>rw [zi] at hi; cases hi
   | some q =>
    rw [zi] at hi
    cases hi
    have qn:=(left_mem.mp (List.mem_of_getElem? zi)).1
    have hl5:SqL K H5 l (rs.map V.str):=(b4.same.trans' ((Same.refl H4).trans' s5)).seq hl
    have no:akB rs low q=false->∃ v,[some (iN q),some (V.ref l),some (V.int low)]=[v,some (.ref l),some (.int low)]/\Same H4 H5/\H5 pa=some (.lst ((((leftL rs n k').take (i + 1)).filter (akB rs low)).map iN)):=fun f=>by
     refine ⟨_,rfl,s5,?_⟩
     rw [filt_snoc zi,f]
     simpa using e5
    refine ⟨_,rfl,_,rfl,_,rfl,l,n,rs,low,121,q,110,rfl,hl5,hrs,n12,ln,qn,_,rfl,?_⟩
    cases c1:decide (0 < cntB rs low 121 q 110) with
    | true=>exact iteF (iteF (no (by unfold akB; rw [<- dn,<- dn,c1]; simp)))
    | false =>
     refine iteT ⟨_,rfl,_,rfl,_,rfl,l,n,rs,low,110,q,121,rfl,hl5,hrs,n12,ln,qn,_,rfl,?_⟩
     cases c2:decide (0 < cntB rs low 110 q 121) with
     | true=>exact iteF (no (by unfold akB; rw [<- dn,<- dn,c2]; simp))
     | false =>
      have o:akB rs low q=true:=by unfold akB; rw [<- dn,<- dn,c1,c2]; rfl
      refine iteT ⟨_,rfl,_,e5,?_,_,rfl,Same.grow hpa s5,?_⟩
      ·rw [List.length_map]
       have h1:=List.length_filter_le (akB rs low) ((leftL rs n k').take i)
       rw [List.length_take] at h1
       exact Nat.lt_of_le_of_lt (show _<=12 by omega) (by decide)
      ·rw [upd_same,filt_snoc zi,o,if_pos rfl,List.map_append]
       rfl
  rintro σ HA ⟨v,rfl,sA,eA⟩
  rw [List.length_map,List.take_length] at eA
  refine ⟨_,rfl,pl,rfl,⟨_,SqL.of (sA _ _ e4)⟩,fun pb hpb=>?_⟩
  refine blk_list (K:=K) (a:=pl) (xs:=(leftL rs n k').map iN) (fun i σ H5=>∃ v,σ=[v,some (.ref l),some (.int low)]/\Same HA H5/\H5 pb=some (.lst ((((leftL rs n k').take i).filter (apB rs low)).map iN))) ⟨none,rfl,Same.new hpb,upd_same⟩ (fun i σ H5 _ ⟨_,_,s5,_⟩=>SqL.of (s5 _ _ (sA _ _ e4))) ?_ ?_
  ·rintro i y σ H5 hi ⟨v,rfl,s5,e5⟩
   rw [List.getElem?_map] at hi
   cases zi:(leftL rs n k')[i]? with
   | none=>rw [zi] at hi; cases hi
   | some q =>
    rw [zi] at hi
    cases hi
    have qn:=(left_mem.mp (List.mem_of_getElem? zi)).1
    have hl5:SqL K H5 l (rs.map V.str):=(b4.same.trans' (sA.trans' s5)).seq hl
    have no:apB rs low q=false->∃ v,[some (iN q),some (V.ref l),some (V.int low)]=[v,some (.ref l),some (.int low)]/\Same HA H5/\H5 pb=some (.lst ((((leftL rs n k').take (i + 1)).filter (apB rs low)).map iN)):=fun f=>by
     refine ⟨_,rfl,s5,?_⟩
     rw [filt_snoc zi,f]
     simpa using e5
    refine ⟨_,rfl,_,rfl,_,rfl,l,n,rs,low,121,q,121,rfl,hl5,hrs,n12,ln,qn,_,rfl,?_⟩
    cases c1:decide (0 < cntB rs low 121 q 121) with
    | true=>exact iteF (iteF (no (by unfold apB; rw [<- dn,<- dn,c1]; simp)))
    | false =>
     refine iteT ⟨_,rfl,_,rfl,_,rfl,l,n,rs,low,110,q,110,rfl,hl5,hrs,n12,ln,qn,_,rfl,?_⟩
     cases c2:decide (0 < cntB rs low 110 q 110) with
     | true=>exact iteF (no (by unfold apB; rw [<- dn,<- dn,c2]; simp))
     | false =>
      have o:apB rs low q=true:=by unfold apB; rw [<- dn,<- dn,c1,c2]; rfl
      refine iteT ⟨_,rfl,_,e5,?_,_,rfl,Same.grow hpb s5,?_⟩
      ·rw [List.length_map]
       have h1:=List.length_filter_le (apB rs low) ((leftL rs n k').take i)
       rw [List.length_take] at h1
       exact Nat.lt_of_le_of_lt (show _<=12 by omega) (by decide)
      ·rw [upd_same,filt_snoc zi,o,if_pos rfl,List.map_append]
       rfl
  rintro σ HB ⟨v,rfl,sB,eB⟩
  rw [List.length_map,List.take_length] at eB
  have eA:=sB _ _ eA
  have b5:=b4.mono (sA.trans' sB)
  have e5:=(sA.trans' sB) _ _ e4
  obtain ⟨bs,ef,bl,_⟩:=b5.at_
  have inA:∀ q,q∈leftL rs n k'->inV (iN q) (((leftL rs n k').filter (akB rs low)).map iN)=akB rs low q:=fun q hq=>by
   rw [in_iN,Bool.eq_iff_iff,decide_eq_true_iff,List.mem_filter]
   exact ⟨fun h=>h.2,fun h=>⟨hq,h⟩⟩
  have inB:∀ q,q∈leftL rs n k'->inV (iN q) (((leftL rs n k').filter (apB rs low)).map iN)=apB rs low q:=fun q hq=>by
   rw [in_iN,Bool.eq_iff_iff,decide_eq_true_iff,List.mem_filter]
   exact ⟨fun h=>h.2,fun h=>⟨hq,h⟩⟩
  refine ⟨_,rfl,.inl ⟨rfl,_,SqL.of ef⟩,?_⟩
  refine ⟨_,rfl,pl,rfl,⟨_,SqL.of e5⟩,fun pq hpq=>?_⟩
  refine blk_list (K:=K) (a:=pl) (xs:=(leftL rs n k').map iN) (fun i σ H6=>∃ v,σ=[v,some (.ref pa),some (.ref pb)]/\Acc HB pq H6 ((((leftL rs n k').take i).filterMap (bunF rs low)).map skP)) ⟨none,rfl,Same.new hpq,[],upd_same,.nil⟩ (fun i σ H6 _ ⟨_,_,a6⟩=>SqL.of (a6.same _ _ e5)) ?_ ?_
  ·rintro i y σ H6 hi ⟨v,rfl,a6⟩
   rw [List.getElem?_map] at hi
   cases zi:(leftL rs n k')[i]? with
   | none=>rw [zi] at hi; cases hi
   | some q =>
    rw [zi] at hi
    cases hi
    have qL:=List.mem_of_getElem? zi
    have sn:(((leftL rs n k').take (i + 1)).filterMap (bunF rs low)).map skP=(((leftL rs n k').take i).filterMap (bunF rs low)).map skP ++ ((bunF rs low q).toList.map skP):=by
     rw [List.take_add_one,zi,List.filterMap_append,List.map_append]
     congr 1
    have fl:((((leftL rs n k').take i).filterMap (bunF rs low)).map skP).length<=12:=by
     rw [List.length_map]
     have h1:=List.length_filterMap_le (bunF rs low) ((leftL rs n k').take i)
     rw [List.length_take] at h1
     omega
    refine ⟨_,rfl,_,rfl,pa,_,rfl,.inl (SqL.of (a6.same _ _ eA)),rfl,flat_iN _,_,rfl,?_⟩
    show if inV (iN q) _=true then _ else _
    rw [inA q qL]
    cases c1:akB rs low q with
    | true =>
     have eb:bunF rs low q=some (q,121):=by unfold bunF alO; rw [c1]; rfl
     refine iteT (iteT ⟨_,rfl,_,rfl,_,rfl,pa,_,rfl,.inl (SqL.of (a6.same _ _ eA)),rfl,flat_iN _,_,rfl,?_⟩)
     show if inV (iN q) _=true then _ else _
     rw [inA q qL,c1]
     refine iteT ⟨len_le (show 2<=100 by decide),fun T hT=>?_⟩
     obtain ⟨ys,e1,l1,a7⟩:=a6.put (k:=skP (q,121)) hpq (Same.refl _) hT
     refine ⟨ys,e1,by rw [l1]; exact Nat.lt_of_le_of_lt fl (by decide),_,rfl,?_⟩
     rw [sn,eb]
     exact a7
    | false =>
     refine iteF ⟨_,rfl,_,rfl,pb,_,rfl,.inl (SqL.of (a6.same _ _ eB)),rfl,flat_iN _,_,rfl,?_⟩
     show if inV (iN q) _=true then _ else _
     rw [inB q qL]
     cases c2:apB rs low q with
     | true =>
      have eb:bunF rs low q=some (q,110):=by unfold bunF alO; rw [c1,c2]; rfl
      refine iteT ⟨_,rfl,_,rfl,_,rfl,pa,_,rfl,.inl (SqL.of (a6.same _ _ eA)),rfl,flat_iN _,_,rfl,?_⟩
      show if inV (iN q) _=true then _ else _
      rw [inA q qL,c1]
      refine iteF ⟨len_le (show 2<=100 by decide),fun T hT=>?_⟩
      obtain ⟨ys,e1,l1,a7⟩:=a6.put (k:=skP (q,110)) hpq (Same.refl _) hT
      refine ⟨ys,e1,by rw [l1]; exact Nat.lt_of_le_of_lt fl (by decide),_,rfl,?_⟩
      rw [sn,eb]
      exact a7
     | false =>
      have eb:bunF rs low q=none:=by unfold bunF alO; rw [c1,c2]; rfl
      refine iteF ⟨_,rfl,?_⟩
      rw [sn,eb]
      simpa using a6
  rintro σ H6 ⟨v,rfl,a6⟩
  rw [List.length_map,List.take_length,lm] at a6
  obtain ⟨bs',ef',bl',b7⟩:=b5.put hpq a6
  refine ⟨pf,_,_,rfl,rfl,ef',?_,?_⟩
  ·rw [List.length_map,bl',List.length_map]
   have:=lows_len rs k'
   exact Nat.lt_of_le_of_lt (show _<=12 by omega) (by decide)
  have keep:∀{b:Addr} {xs:List V},b≠pf->HB b=some (.lst xs)->upd H6 pf (.lst (bs'.map V.ref ++ [.ref pq])) b=some (.lst xs):=fun nb e=>by rw [upd_ne nb]; exact a6.same _ _ e
  have npa:pa≠pf:=fun e=>by
   obtain ⟨_,e',_⟩:=b4.at_
   rw [e,e'] at hpa
   cases hpa
  have npb:pb≠pf:=fun e=>by
   obtain ⟨_,e',_⟩:=(b4.mono sA).at_
   rw [e,e'] at hpb
   cases hpb
  have e7:=keep npf e5
  have A7:=keep npa eA
  have B7:=keep npb eB
  have f7:∃ ys,upd H6 pf (.lst (bs'.map V.ref ++ [.ref pq])) pf=some (.lst ys):=⟨_,upd_same⟩
  generalize upd H6 pf (.lst (bs'.map V.ref ++ [.ref pq]))=H7 at *
  refine ⟨_,rfl,pl,rfl,⟨_,SqL.of e7⟩,fun pn hpn=>?_⟩
  refine blk_list (K:=K) (a:=pl) (xs:=(leftL rs n k').map iN) (fun i σ H8=>∃ v,σ=[v,some (.ref pa),some (.ref pb)]/\Same H7 H8/\H8 pn=some (.lst ((((leftL rs n k').take i).filter fun q=>!akB rs low q && !apB rs low q).map iN))) ⟨none,rfl,Same.new hpn,upd_same⟩ (fun i σ H8 _ ⟨_,_,s8,_⟩=>SqL.of (s8 _ _ e7)) ?_ ?_
  ·rintro i y σ H8 hi ⟨v,rfl,s8,e8⟩
   rw [List.getElem?_map] at hi
   cases zi:(leftL rs n k')[i]? with
   | none=>rw [zi] at hi; cases hi
   | some q =>
    rw [zi] at hi
    cases hi
    have qL:=List.mem_of_getElem? zi
    have no:(!akB rs low q && !apB rs low q)=false->∃ v,[some (iN q),some (V.ref pa),some (V.ref pb)]=[v,some (.ref pa),some (.ref pb)]/\Same H7 H8/\H8 pn=some (.lst ((((leftL rs n k').take (i + 1)).filter fun q=>!akB rs low q && !apB rs low q).map iN)):=fun f=>by
     refine ⟨_,rfl,s8,?_⟩
     rw [filt_snoc zi,f]
     simpa using e8
    refine ⟨_,rfl,_,rfl,pa,_,rfl,.inl (SqL.of (s8 _ _ A7)),rfl,flat_iN _,_,rfl,?_⟩
    show if (!inV (iN q) _)=true then _ else _
    rw [inA q qL]
    cases c1:akB rs low q with
    | true=>exact iteF (iteF (no (by rw [c1]; rfl)))
    | false =>
     refine iteT ⟨_,rfl,_,rfl,pb,_,rfl,.inl (SqL.of (s8 _ _ B7)),rfl,flat_iN _,_,rfl,?_⟩
     show if (!inV (iN q) _)=true then _ else _
     rw [inB q qL]
     cases c2:apB rs low q with
     | true=>exact iteF (no (by rw [c1,c2]; rfl))
     | false =>
      refine iteT ⟨_,rfl,_,e8,?_,_,rfl,Same.grow hpn s8,?_⟩
      ·rw [List.length_map]
       have h1:=List.length_filter_le (fun q=>!akB rs low q && !apB rs low q) ((leftL rs n k').take i)
       rw [List.length_take] at h1
       exact Nat.lt_of_le_of_lt (show _<=12 by omega) (by decide)
      ·rw [upd_same,filt_snoc zi,c1,c2,List.map_append]
       rfl
  rintro σ H8 ⟨v,rfl,s8,e8⟩
  rw [List.length_map,List.take_length,lf] at e8
  refine ⟨pn,_,_,_,rfl,fun e=>?_,?_,e8⟩
  ·obtain ⟨ys,e'⟩:=f7
   rw [e,e'] at hpn
   cases hpn
  ·rw [ls,List.map_append]
   exact b7.mono s8
end
end K63
namespace K63
open PySem L2
open PyProof.Rows (envOfC)
def BunsAt (H:Hp) (p:Addr) (bl:List (List (Nat×Nat))):Prop:=∃ bs:List Addr,H p=some (.lst (bs.map V.ref))/\bs.length=bl.length/\∀(i:Nat) (b:Addr) (ks:List (Nat×Nat)),bs[i]? = some b->bl[i]? = some ks->∃ as:List Addr,H b=some (.lst (as.map V.ref))/\Tups H as (ks.map skP)
theorem Buns.now {H0 H:Hp}{p:Addr}{bl:List (List (Nat×Nat))}(B:Buns H0 p H bl):BunsAt H p bl:=by
 obtain ⟨bs,e,l,_,g⟩:=B.at_
 exact ⟨bs,e,l,g⟩
theorem BunsAt.mono {H H':Hp}{p:Addr}{bl:List (List (Nat×Nat))}(B:BunsAt H p bl) (s:Same H H'):BunsAt H' p bl:=by
 obtain ⟨bs,e,l,g⟩:=B
 exact ⟨bs,s _ _ e,l,fun i b ks h1 h2=>let ⟨as,e1,t1⟩:=g i b ks h1 h2; ⟨as,s _ _ e1,t1.mono s⟩⟩
section
variable {P:Program}{w:World}{K:PySem.W.Frag}{mg:Str->Option Value}{base:Heap}
end
end K63
namespace L2
open PySem
def apP (x z:Str) (l:Nat):Bool:=decide (¬ ch x l=ch z l)
def dfc (rs:List Str) (n:Nat) (x z:Str):Nat:=(lows rs n).countP (apP x z)
theorem cnt_tri {p q r:Nat->Bool}:∀{L:List Nat},(∀ l∈L,(p l).toNat + (q l).toNat ≥ (r l).toNat)->(L.countP p + L.countP q ≥ L.countP r/\(L.countP p + L.countP q=L.countP r↔∀ l∈L,(p l).toNat + (q l).toNat=(r l).toNat))
 | [],_=>⟨Nat.le_refl _,fun _ _ h=>(by cases h),fun _=>rfl⟩
 | a :: L,h=>by
  obtain ⟨h1,h2⟩:=cnt_tri (p:=p) (q:=q) (r:=r) (L:=L) fun l hl=>h l (List.mem_cons_of_mem _ hl)
  have ha:=h a List.mem_cons_self
  have e:∀ f:Nat->Bool,(a :: L).countP f=L.countP f + (f a).toNat:=fun f=>by
   rw [List.countP_cons]
   cases f a <;> rfl
  rw [e,e,e]
  refine ⟨by omega,fun w=>?_,fun w=>?_⟩
  ·have e1:L.countP p + L.countP q=L.countP r:=by omega
   have e2:=h2.mp e1
   intro l hl
   rcases List.mem_cons.mp hl with rfl | hl
   ·omega
   ·exact e2 l hl
  ·have e1:=h2.mpr fun l hl=>w l (List.mem_cons_of_mem _ hl)
   have e2:=w a List.mem_cons_self
   omega
section
variable {rs:List Str}{n:Nat}(hrs:∀ x∈rs,Row n x)
include hrs
end
end L2
namespace K63
open PySem L2
open PyProof.Rows (envOfC)
abbrev s_lapart:Stmt:=top 64
section
variable {P:Program}{w:World}{K:PySem.W.Frag}{mg:Str->Option Value}{base:Heap}{C fi fa ft fy fm fc:Addr}{gi ga gt gy gm gc:FuncData}{W BC BS fW fC fS:Addr}{gW gC gS:FuncData}
def spLapart (K:PySem.W.Frag):Sp:=fun vs H Q _=>∃(sh:Addr) (n:Nat) (rs:List Str) (x y:Str),vs=[.ref sh,.str x,.str y]/\BunsAt H sh (bnl rs n)/\(∀ x∈rs,Row n x)/\Row n x/\Row n y/\n<=12/\∀ p xs H',H p=none->Same H H'->H' p=some (.lst xs)->xs.length=dfc rs n x y->Q (.ref p) H'
abbrev N_la:List Str:=["_law_sheaves", "_law_one", "_law_another"]
abbrev P_la:List Str:=["_law_sheaves", "_law_one", "_law_another"]
theorem sc_la:FnScope N_la P_la (defScope s_lapart):=⟨rfl,rfl,rfl,by decide +kernel,rfl,by decide +kernel,by decide +kernel⟩
abbrev N_la1:List Str:=["_law_sheaf", "_law_one", "_law_another"]
theorem nd_la1:N_la1.Nodup:=by decide +kernel
theorem ok_lapart {f:Addr}{fd:FuncData}(D:Df K mg "_law_apart" s_lapart P_la f fd):FnOk P w K mg base (CXE P w) 1 f fd P_la (spLapart K):=by
 refine D.F.okN sc_la (fun vs H Q E h=>?_) (fun cdv A outer s H vs Q E hr h=>?_)
 ·obtain ⟨sh,n,rs,x,y,rfl,_⟩:=h
  rfl
 ·obtain ⟨sh,n,rs,x,y,rfl,⟨bs,es,lbs,gs⟩,hrs,hx,hy,n12,k⟩:=h
  refine ⟨_,pss_one (ps_ret (pe_comp (N':=N_la1) (fm:=[none,some 1,some 2]) rfl ⟨rfl,by decide +kernel,by decide +kernel,rfl,rfl,rfl⟩ (pi_list (pv 0)) (fun _ _ _ _=>(pg_name (i:=0) nd_la1 rfl (Or.inl rfl))) (fun _ _ _ _=>(pif_one (pt_cmpR op_ne (pe_ix ix_str (pv 1) (pe_ix (r:=rIxT K) ix_tup (pe_ix (r:=rIxL K) ix_list (pv 0) pe_int (fun _ _=>rfl)) pe_int (fun _ _=>rfl)) (fun _ _=>rfl)) (pe_ix ix_str (pv 2) (pe_ix (r:=rIxT K) ix_tup (pe_ix (r:=rIxL K) ix_list (pv 0) pe_int (fun _ _=>rfl)) pe_int (fun _ _=>rfl)) (fun _ _=>rfl)) (nomark _)))) (fun _ _ _ _=>(pv 0)))),?_⟩
  refine ⟨_,rfl,sh,rfl,⟨_,SqL.of es⟩,fun p hp=>?_⟩
  have lb:bs.length=(lows rs n).length:=by rw [lbs]; unfold bnl; rw [List.length_map]
  have L12:(lows rs n).length<=12:=Nat.le_trans (lows_len rs n) n12
  refine blk_list (K:=K) (a:=sh) (xs:=bs.map V.ref) (fun i σ H2=>∃ v zs,σ=[v,some (.str x),some (.str y)]/\Same H H2/\H2 p=some (.lst zs)/\zs.length=((lows rs n).take i).countP (apP x y)) ⟨none,[],rfl,Same.new hp,upd_same,rfl⟩ (fun i σ H2 _ ⟨_,_,_,s2,_⟩=>SqL.of (s2 _ _ es)) ?_ ?_
  ·rintro i v' σ H2 hi ⟨v,zs,rfl,s2,e2,l2⟩
   rw [List.getElem?_map] at hi
   cases z:bs[i]? with
   | none=>rw [z] at hi; cases hi
   | some b =>
    rw [z] at hi
    cases hi
    have il:=(List.getElem?_eq_some_iff.mp z).1
    have yl:(lows rs n)[i]? = some (lows rs n)[i]:=List.getElem?_eq_getElem (by omega)
    generalize (lows rs n)[i]=lo at *
    have mem:=List.mem_of_getElem? yl
    unfold lows at mem
    rw [List.mem_filter,List.mem_range] at mem
    obtain ⟨tl,et⟩:=bun_head hrs mem.1 mem.2
    obtain ⟨as,ea,ta⟩:=gs i b (bun rs n lo) z (by unfold bnl; rw [List.getElem?_map,yl]; rfl)
    rw [et] at ta
    have sx:x.length<=sizeLine:=by rw [hx.len]; exact len_le (by omega)
    have sy:y.length<=sizeLine:=by rw [hy.len]; exact len_le (by omega)
    cases as with
    | nil=>exact absurd ta.1 (by simp)
    | cons a0 at' =>
     have ea0:=ta.2 0 a0 _ rfl rfl
     have sn:((lows rs n).take (i + 1)).countP (apP x y)=((lows rs n).take i).countP (apP x y) + (apP x y lo).toNat:=by
      rw [List.take_add_one,yl,List.countP_append]
      congr 1
     have c12:zs.length<=12:=by
      rw [l2]
      refine Nat.le_trans List.countP_le_length ?_
      rw [List.length_take]
      omega
     refine ⟨_,rfl,_,rfl,b,_,_,_,rfl,rfl,SqL.of (s2 _ _ ea),(show atI _ ((0:Nat):Int)=_ from atI_nat rfl),a0,_,_,_,rfl,rfl,SqT.of (s2 _ _ ea0),rfl,_,_,_,rfl,rfl,sx,ch_at hx mem.1,_,rfl,_,rfl,b,_,_,_,rfl,rfl,SqL.of (s2 _ _ ea),(show atI _ ((0:Nat):Int)=_ from atI_nat rfl),a0,_,_,_,rfl,rfl,SqT.of (s2 _ _ ea0),rfl,_,_,_,rfl,rfl,sy,ch_at hy mem.1,rfl,_,rfl,ite2 (fun c=>?_) (fun c=>?_)⟩
     ·have c:(!decide (s1 (ch x lo)=s1 (ch y lo)))=true:=c
      rw [dec_s1] at c
      have c:¬ ch x lo=ch y lo:=by simpa using c
      refine ⟨_,rfl,zs,e2,Nat.lt_of_le_of_lt c12 (by decide),_,_,rfl,Same.grow hp s2,upd_same,?_⟩
      rw [List.length_append,l2,sn]
      unfold apP
      rw [decide_eq_true c]
      rfl
     ·have c:¬ (!decide (s1 (ch x lo)=s1 (ch y lo)))=true:=c
      rw [dec_s1] at c
      have c:ch x lo=ch y lo:=by simpa using c
      refine ⟨_,_,rfl,s2,e2,?_⟩
      rw [l2,sn]
      unfold apP
      rw [decide_eq_false (fun w=>w c)]
      rfl
  ·rintro σ H2 ⟨v,zs,rfl,s2,e2,l2⟩
   rw [List.length_map,lb,List.take_length] at l2
   exact k p zs H2 hp s2 e2 l2
end
end K63
namespace K63
open PySem L2
open PyProof.Rows (envOfC)
abbrev s_other:Stmt:=top 21
abbrev s_turned:Stmt:=top 25
def turnC (qs:List Nat) (x:Str) (i:Nat):Nat:=if i∈qs then notM (ch x i) else ch x i
def turnT (n:Nat) (qs:List Nat) (x:Str):Str:=tx n (turnC qs x)
theorem not_sgn {c:Nat}(h:c=121∨c=110):notM c=121∨notM c=110:=by
 rcases h with rfl | rfl
 ·exact .inr rfl
 ·exact .inl rfl
theorem turn_row {n:Nat}{qs:List Nat}{x:Str}(h:Row n x):Row n (turnT n qs x):=by
 refine ⟨tx_len _ _,fun i hi=>?_⟩
 unfold turnT
 rw [ch_tx hi]
 unfold turnC
 split
 ·exact not_sgn (h.bin i hi)
 ·exact h.bin i hi
section
variable {P:Program}{w:World}{K:PySem.W.Frag}{mg:Str->Option Value}{base:Heap}{C fi fa ft fy fm fc:Addr}{gi ga gt gy gm gc:FuncData}{W BC BS fW fC fS:Addr}{gW gC gS:FuncData}
def spOther:Sp:=fun vs H Q _=>∃ a:Nat,vs=[s1 a]/\Sign a/\Q (s1 (notM a)) H
abbrev N_ot:List Str:=["sign"]
abbrev P_ot:List Str:=["sign"]
theorem sc_ot:FnScope N_ot P_ot (defScope s_other):=⟨rfl,rfl,rfl,by decide +kernel,rfl,by decide +kernel,by decide +kernel⟩
theorem ok_other {f fs:Addr}{fd gs:FuncData}(D:Df K mg "other" s_other P_ot f fd) (Ds:Df K mg "check_sign" s_csign ["sign"] fs gs):FnOk P w K mg base (CXE P w) 2 f fd P_ot spOther:=by
 refine D.F.okN sc_ot (fun vs H Q E h=>?_) (fun cdv A outer s H vs Q E hr h=>?_)
 ·obtain ⟨a,rfl,_⟩:=h
  rfl
 ·obtain ⟨a,rfl,ha,k⟩:=h
  refine ⟨_,pss_cons (ps_expr (pe_fn Ds (ok_csign Ds) (hr.mono (by decide)) passN (pa_cons (pv 0) pa_nil)))
   (pss_one (ps_ret (pe_ifExp (pt_cmpR op_eq (pv 0) pe_str (nomark _)) pe_str pe_str))),?_⟩
  refine ⟨_,rfl,a,rfl,ha,_,rfl,rfl,_,rfl,ite2 (fun c=>?_) (fun c=>?_)⟩
  ·have c:decide (s1 a=s1 121)=true:=c
   rw [dec_s1] at c
   have c:a=121:=by simpa using c
   rw [c] at k
   exact k
  ·have c:¬ decide (s1 a=s1 121)=true:=c
   rw [dec_s1] at c
   have c:¬ a=121:=by simpa using c
   have e:notM a=121:=if_neg c
   rw [e] at k
   exact k
def spTurned (K:PySem.W.Frag):Sp:=fun vs H Q _=>∃(l:Addr) (n:Nat) (qs:List Nat) (x:Str),vs=[.str x,.ref l]/\Row n x/\n<=12/\SqL K H l (qs.map iN)/\∀ H',Same H H'->Q (.str (turnT n qs x)) H'
abbrev N_tu:List Str:=["row", "questions"]
abbrev P_tu:List Str:=["row", "questions"]
theorem sc_tu:FnScope N_tu P_tu (defScope s_turned):=⟨rfl,rfl,rfl,by decide +kernel,rfl,by decide +kernel,by decide +kernel⟩
abbrev N_tu1:List Str:=["at", "sign", "questions"]
theorem nd_tu1:N_tu1.Nodup:=by decide +kernel
theorem ok_turned {f fo:Addr}{fd go:FuncData}(D:Df K mg "turned" s_turned P_tu f fd) (Do:Df K mg "other" s_other P_ot fo go) (Go:FnOk P w K mg base (CXE P w) 2 fo go P_ot spOther) (M:Gm mg):FnOk P w K mg base (CXE P w) 3 f fd P_tu (spTurned K):=by
 refine D.F.okN sc_tu (fun vs H Q E h=>?_) (fun cdv A outer s H vs Q E hr h=>?_)
 ·obtain ⟨l,n,qs,x,rfl,_⟩:=h
  rfl
 ·obtain ⟨l,n,qs,x,rfl,hx,n12,hl,k⟩:=h
  refine ⟨_,pss_one (ps_ret (pe_bm PySem.F.plainAttrs_str PySem.F.slot_str_join PySem.F.type_str_join mt_join pe_str (pa_cons (pe_comp (g:=(gTup K 2 (gCons (gName 0) (gCons (gName 1) gNil)))) (N':=N_tu1) (fm:=[none,none,some 1]) rfl ⟨rfl,by decide +kernel,by decide +kernel,rfl,rfl,rfl⟩ (pi_enum (by rfl) M.enum (pa_cons (pv 0) pa_nil)) (fun _ _ _ _=>(pg_tup rfl (pgs_cons (pg_name (i:=0) nd_tu1 rfl (Or.inl rfl)) (pgs_cons (pg_name (i:=1) nd_tu1 rfl (Or.inl rfl)) pgs_nil)))) (fun _ _ _ _=>pif_nil) (fun _ _ _ _=>(pe_ifExp (pt_cmpR (r:=rIn K false) op_in_seq (pv 0) (pv 2) (by rfl)) (pe_fn Do Go (hr.mono (by decide)) passN (pa_cons (pv 1) pa_nil)) (pv 1)))) pa_nil))),?_⟩
  refine ⟨rfl,_,rfl,x,rfl,fun p hp=>?_⟩
  refine blk_enum (fun i σ H2=>∃ v0 v1,σ=[v0,v1,some (.ref l)]/\Same H H2/\H2 p=some (.lst ((List.range i).map fun j=>s1 (turnC qs x j)))) ⟨none,none,rfl,Same.new hp,upd_same⟩ ?_ ?_
  ·rintro i T σ H2 hi hT ⟨v0,v1,rfl,s2,e2⟩
   rw [hx.len] at hi
   have sT:=Same.new (o:=.tup [.int i,sg x i]) hT
   have fin:∀ a:Nat,a=turnC qs x i->∃ ys,upd H2 T (.tup [.int i,sg x i]) p=some (.lst ys)/\ys.length < sizeLine/\∃ v0 v1,[some (V.int i),some (sg x i),some (V.ref l)]=[v0,v1,some (.ref l)]/\Same H (upd (upd H2 T (.tup [.int i,sg x i])) p (.lst (ys ++ [s1 a])))/\upd (upd H2 T (.tup [.int i,sg x i])) p (.lst (ys ++ [s1 a])) p=some (.lst ((List.range (i + 1)).map fun j=>s1 (turnC qs x j))):=fun a e=>by
    refine ⟨_,sT _ _ e2,small_rng _ _ (by omega),_,_,rfl,Same.grow hp (s2.trans' sT),?_⟩
    rw [upd_same,<- map_snoc,e]
   refine ⟨T,_,rfl,SqT.of upd_same,rfl,_,_,rfl,_,_,rfl,rfl,iteT (B:=True) ?_⟩
   refine ⟨_,rfl,_,rfl,l,_,rfl,.inl ((s2.trans' sT).seq hl),rfl,flat_iN _,_,rfl,?_⟩
   show if inV (iN i) _=true then _ else _
   rw [in_iN]
   by_cases c:i∈qs
   ·rw [decide_eq_true c]
    refine iteT ⟨_,rfl,ch x i,rfl,hx.bin i hi,?_⟩
    exact fin _ (by unfold turnC; rw [if_pos c])
   ·rw [decide_eq_false c]
    refine iteF ⟨_,rfl,?_⟩
    exact fin (ch x i) (by unfold turnC; rw [if_neg c])
  ·rintro σ H2 ⟨v0,v1,rfl,s2,e2⟩
   rw [hx.len] at e2
   refine ⟨_,p,(List.range n).map fun j=>(⟨#[turnC qs x j]⟩:Str),rfl,rfl,?_,by decide,?_,?_⟩
   ·rw [List.map_map]
    exact SqL.of e2
   ·rw [joinlen,List.length_map,List.length_range]; omega
   ·rw [tx_join]
    exact k H2 s2
end
end K63
namespace K63
open PySem L2
abbrev s_lacks:Stmt:=top 30
abbrev s_cruling:Stmt:=top 28
open PyProof.Rows (envOfC)
section
variable {P:Program}{w:World}{K:PySem.W.Frag}{mg:Str->Option Value}{base:Heap}{C fi fa ft fy fm fc:Addr}{gi ga gt gy gm gc:FuncData}
def spLacks (C:Addr):Sp:=fun vs H Q _=>∃(t dx kp bt:Addr) (n m:Nat) (rs:List Str) (x:Str),vs=[.ref t,.str x]/\TabAt C H t dx kp bt n m rs/\Row n x/\1<=n/\n<=12/\∀ p H',H p=none->Acc H p H' (pgM rs 0 (ansG x n))->Q (.ref p) H'
abbrev Plk:List Str:=["table", "row"]
theorem sc_lacks:FnScope Plk Plk (defScope s_lacks):=⟨rfl,rfl,rfl,by decide +kernel,rfl,by decide +kernel,by decide +kernel⟩
theorem ok_lacks {f fg fr:Addr}{fd gg gr:FuncData}(D:Df K mg "lacks" s_lacks Plk f fd) (Dg:Df K mg "gaps" s_gaps Pgp fg gg) (Gg:FnOk P w K mg base (CXE P w) 5 fg gg Pgp (spGaps C)) (Dr:Df K mg "check_row" s_crow Pir fr gr) (Gr:FnOk P w K mg base (CXE P w) 3 fr gr Pir spCrow) (T:Tb K mg C fi fa ft fy fm fc gi ga gt gy gm gc):FnOk P w K mg base (CXE P w) 6 f fd Plk (spLacks C):=by
 refine D.F.okN sc_lacks (fun vs H Q E h=>?_) (fun cdv A outer s H vs Q E hr h=>?_)
 ·obtain ⟨t,dx,kp,bt,n,m,rs,x,rfl,_⟩:=h
  rfl
 ·obtain ⟨t,dx,kp,bt,n,m,rs,x,rfl,tab,hx,n1,n12,k⟩:=h
  refine ⟨_,pss_cons (ps_expr (pe_fn Dr Gr (hr.mono (by decide)) passN (pa_cons (pv 1) (pa_cons (pe_fld (pv 0) rfl) pa_nil))))
   (pss_one (ps_ret (pe_fn Dg Gg hr passN (pa_cons (pv 0) (pa_cons (pv 1) pa_nil))))),?_⟩
  refine ⟨_,rfl,_,rfl,t,C,dx,_,_,rfl,tab.ins,T.cl,T.nQ,rfl,x,n,rfl,hx,n1,n12,fun H1 s1'=>?_⟩
  refine ⟨_,rfl,_,rfl,t,dx,kp,bt,n,m,rs,x,rfl,tab.mono s1',hx.pat,n12,fun p H' hp a=>?_⟩
  refine k p H' ?_ (a.back s1')
  cases z:H p with
  | none=>rfl
  | some o=>rw [s1' _ _ z] at hp; cases hp
def spCrul (C:Addr):Sp:=fun vs H Q _=>∃(t dx kp bt:Addr) (n m:Nat) (rs:List Str) (x:Str),vs=[.ref t,.str x]/\TabAt C H t dx kp bt n m rs/\Row n x/\Borne rs n x/\1<=n/\n<=12/\∀ H',Same H H'->Q .non H'
theorem sc_crul:FnScope Plk Plk (defScope s_cruling):=⟨rfl,rfl,rfl,by decide +kernel,rfl,by decide +kernel,by decide +kernel⟩
theorem ok_crul {f fl:Addr}{fd gl:FuncData}(D:Df K mg "check_ruling" s_cruling Plk f fd) (Dl:Df K mg "lacks" s_lacks Plk fl gl) (Gl':FnOk P w K mg base (CXE P w) 6 fl gl Plk (spLacks C)):FnOk P w K mg base (CXE P w) 7 f fd Plk (spCrul C):=by
 refine D.F.okN sc_crul (fun vs H Q E h=>?_) (fun cdv A outer s H vs Q E hr h=>?_)
 ·obtain ⟨t,dx,kp,bt,n,m,rs,x,rfl,_⟩:=h
  rfl
 ·obtain ⟨t,dx,kp,bt,n,m,rs,x,rfl,tab,hx,hb,n1,n12,k⟩:=h
  refine ⟨_,pss_one (ps_if (pt_truth (pe_fn Dl Gl' hr passN (pa_cons (pv 0) (pa_cons (pv 1) pa_nil))) (fun _=>rfl)) (pss_one ps_never) pss_nil),?_⟩
  refine ⟨_,rfl,_,rfl,t,dx,kp,bt,n,m,rs,x,rfl,tab,hx,n1,n12,fun p H' hp a=>?_⟩
  rw [lack_nil hb] at a
  obtain ⟨s',rs',e,t'⟩:=a
  have:rs'=[]:=List.length_eq_zero_iff.mp t'.1
  subst this
  exact ⟨false,.inl ⟨_,SqL.of e,rfl⟩,iteF (k H' s')⟩
end
end K63
namespace L2
open PySem PySem.Spec PyProof.Rows
structure Xc (K:PySem.W.Frag) (mg:Str->Option Value) (W B f:Addr) (g:FuncData) (cls qn:Str) (st:Stmt):Prop where
 m:mg cls=some (.ref B)
 k:XKl K B
 s:XSub K B W
 i:XMk K B f
 F:Fun K "__init__" qn st f g
 b:Binds K g ["self"] []
end L2
namespace L2
open PySem PySem.Spec PyProof.Rows
theorem none_back {H H':Hp}{p:Addr}(s:Same H H') (h:H' p=none):H p=none:=by
 cases z:H p with
 | none=>rfl
 | some o=>rw [s _ _ z] at h; cases h
theorem pow12 {j:Nat}(h:j<=12):2 ^ j<=4096:=Nat.le_trans (Nat.pow_le_pow_right (by decide) h) (by decide)
theorem eqb_strs (xs:List Str):(Dt.lst (xs.map Dt.str)).eqb (.lst (xs.map Dt.str))=true:=eqbs_strs xs
theorem deep_strs (xs:List Str):(Dt.lst (xs.map Dt.str)).deep<=1:=by
 show 1 + Dt.deep.deeps (xs.map Dt.str)<=1
 rw [deeps_strs]
 decide
section
variable {X:Cx}
def rEqNil (K:PySem.W.Frag):R2:=fun x y H Q=>∃ a b xs,x=.ref a/\y=.ref b/\SqL K H a xs/\SqL K H b []/\Q (.bl xs.isEmpty) H
theorem op_eqNil (hu:X.A.units < cLine):OpR X (compareOp .Eq) (rEqNil X.K):=by
 intro pins s σ H x y v u Q I rx ry h
 obtain ⟨a,b,xs,rfl,rfl,ha,hb,q⟩:=h
 cases rx
 cases ry
 obtain ⟨its,r1,p1,_⟩:=I.list ha
 obtain ⟨its2,r2,p2,_⟩:=I.list hb
 cases r2
 cases r1 with
 | nil=>exact PySem.EqBoolInt.of_rc (SeqAt.RcAt.lists (e:=fun _=>true) p1.isList p2.isList rfl hu (fun j h1 _=>absurd h1 (by simp))) ⟨.bl true,H,I,rfl,q⟩
 | cons r t=>exact PySem.EqBoolInt.of_rc (SeqAt.RcAt.lists_lengths p1.isList p2.isList (by simp) hu) ⟨.bl false,H,I,rfl,q⟩
end
end L2
namespace L2
open PySem
theorem ap_tri (x y z:Str) (l:Nat):(apP x z l).toNat + (apP z y l).toNat ≥ (apP x y l).toNat:=by
 unfold apP
 by_cases a:ch x l=ch z l <;> by_cases b:ch z l=ch y l <;> by_cases c:ch x l=ch y l <;> simp [a,b,c] <;> omega
end L2
namespace L2
open PySem PySem.Spec PyProof.Rows
def Mt (n:Nat) (p z:Str):Prop:=∀ i,i < n->ch p i=45∨ch p i=ch z i
structure Near (rs:List Str) (n:Nat) (p x z:Str):Prop where
 row:Row n z
 fit:∀ i,i < n->Fits rs n p i (ch x i)->ch z i=ch x i
 nof:∀ i,i < n->¬ Fits rs n p i (ch x i)->¬ ch z i=ch x i
section
variable {rs:List Str}{n:Nat}(hrs:∀ x∈rs,Row n x) {p x z:Str}(rx:Row n x) (bx:Borne rs n x) (hp:Pat n p) (sp:Stands rs n p) (N:Near rs n p x z)
include hrs rx bx N
theorem Near.forced {i:Nat}(hi:i < n) (c:¬ ch z i=ch x i):∃ g,g < n/\¬ ch p g=45/\∀ y∈rs,ch y g=ch p g->ch y i=ch z i:=by
 have nf:¬ Fits rs n p i (ch x i):=fun w=>c (N.fit i hi w)
 have b1:=rx.bin i hi
 have b2:=N.row.bin i hi
 by_cases h:∃ g,g < n/\¬ ch p g=45/\¬ 0 < cntB rs i (ch x i) g (ch p g)
 ·obtain ⟨g,hg,ng,e⟩:=h
  refine ⟨g,hg,ng,fun y hy e2=>?_⟩
  have b3:=(hrs y hy).bin i hi
  have:¬ ch y i=ch x i:=fun w=>e (cnt_pos.mpr ⟨y,hy,w,e2⟩)
  omega
 ·refine absurd ⟨bx i i hi hi,fun r hr nr=>?_⟩ nf
  cases Nat.eq_zero_or_pos (cntB rs i (ch x i) r (ch p r)) with
  | inr h=>exact h
  | inl e=>exact absurd ⟨r,hr,nr,by omega⟩ h
include sp
theorem Near.fits {i:Nat}(hi:i < n):Fits rs n p i (ch z i):=by
 by_cases c:ch z i=ch x i
 ·by_cases f:Fits rs n p i (ch x i)
  ·rw [c]; exact f
  ·exact absurd c (N.nof i hi f)
 ·obtain ⟨g,hg,ng,h⟩:=Near.forced hrs rx bx N hi c
  refine ⟨?_,fun r hr nr=>?_⟩
  ·obtain ⟨y,hy,e,_⟩:=cnt_pos.mp (sp g g hg hg ng ng)
   exact cnt_pos.mpr ⟨y,hy,h y hy e,h y hy e⟩
  ·obtain ⟨y,hy,e,e2⟩:=cnt_pos.mp (sp g r hg hr ng nr)
   exact cnt_pos.mpr ⟨y,hy,h y hy e,e2⟩
theorem Near.borne:Borne rs n z:=fun q r hq hr=>by
 by_cases c:ch z q=ch x q
 ·by_cases d:ch z r=ch x r
  ·rw [c,d]; exact bx q r hq hr
  ·obtain ⟨g,hg,ng,h⟩:=Near.forced hrs rx bx N hr d
   obtain ⟨y,hy,e1,e2⟩:=cnt_pos.mp ((Near.fits hrs rx bx sp N hq).2 g hg ng)
   exact cnt_pos.mpr ⟨y,hy,e1,h y hy e2⟩
 ·obtain ⟨g,hg,ng,h⟩:=Near.forced hrs rx bx N hq c
  obtain ⟨y,hy,e1,e2⟩:=cnt_pos.mp ((Near.fits hrs rx bx sp N hr).2 g hg ng)
  exact cnt_pos.mpr ⟨y,hy,h y hy e2,e1⟩
include hp
theorem Near.mt:Mt n p z:=fun i hi=>by
 by_cases e:ch p i=45
 ·exact .inl e
 refine .inr ?_
 by_cases c:ch x i=ch p i
 ·have f:Fits rs n p i (ch x i):=by
   rw [c]
   exact ⟨sp i i hi hi e e,fun r hr nr=>sp i r hi hr e nr⟩
  rw [N.fit i hi f,c]
 ·have f:¬ Fits rs n p i (ch x i):=fun f=>by
   obtain ⟨y,hy,e1,e2⟩:=cnt_pos.mp (f.2 i hi e)
   exact c (e1.symm.trans e2)
  have d:=N.nof i hi f
  have b1:=rx.bin i hi
  have b2:=N.row.bin i hi
  have b3:=hp.2 i hi
  omega
omit hp
theorem Near.on {o:Str}(bo:Borne rs n o) (m:Mt n p o) {i:Nat}(hi:i < n) (c:¬ ch z i=ch x i):ch o i=ch z i:=by
 obtain ⟨g,hg,ng,h⟩:=Near.forced hrs rx bx N hi c
 obtain ⟨y,hy,e1,e2⟩:=cnt_pos.mp (bo g i hg hi)
 have e3:ch p g=ch o g:=(m g hg).resolve_left ng
 rw [<- e2]
 exact h y hy (e1.trans e3.symm)
theorem Near.dfc {o:Str}(bo:Borne rs n o) (m:Mt n p o):dfc rs n x z + dfc rs n z o=dfc rs n x o:=by
 refine ((cnt_tri (p:=apP x z) (q:=apP z o) (r:=apP x o) (L:=lows rs n) fun l _=>ap_tri x o z l).2).mpr fun l hl=>?_
 have ln:l < n:=by
  unfold lows at hl
  rw [List.mem_filter,List.mem_range] at hl
  exact hl.1
 unfold apP
 by_cases c:ch z l=ch x l
 ·rw [c,decide_eq_false (show ¬ ¬ ch x l=ch x l from fun w=>w rfl)]
  exact Nat.zero_add _
 ·have d1:¬ ch x l=ch z l:=fun w=>c w.symm
  rw [Near.on hrs rx bx sp N bo m ln c,decide_eq_true d1,decide_eq_false (show ¬ ¬ ch z l=ch z l from fun w=>w rfl)]
  rfl
end
end L2
namespace K63
open PySem L2
open PyProof.Rows (envOfC)
abbrev s_uinit:Stmt:=inClass (top 11) 0
abbrev s_nearest:Stmt:=top 44
section
variable {P:Program}{w:World}{K:PySem.W.Frag}{mg:Str->Option Value}{base:Heap}{C fi fa ft fy fm fc:Addr}{gi ga gt gy gm gc:FuncData}{W BC BS fW fC fS BP fP BU fU:Addr}{gW gC gS gP gU:FuncData}
theorem sc_uinit:FnScope ["self"] ["self"] (defScope s_uinit):=⟨rfl,rfl,rfl,by decide +kernel,rfl,by decide +kernel,by decide +kernel⟩
theorem ok_uinit (T:Xs K mg W BC BS fW fC fS gW gC gS) (Z:Xc K mg W BU fU gU "Unmatched" "Unmatched.__init__" s_uinit):FnOk P w K mg base (CXE P w) 2 fU gU ["self"] (spInit BU "unmatched"):=by
 refine Z.F.okN sc_uinit (fun vs H Q E h=>?_) (fun cdv A outer s H vs Q E hr h=>?_)
 ·obtain ⟨ea,tb,rfl,_⟩:=h
  rfl
 ·obtain ⟨ea,tb,rfl,e1,k⟩:=h
  refine ⟨_,pss_one (ps_expr (pe_cmeth T.aW (ok_winit T) hr (by rfl) T.mW T.bW passN (pa_cons (pv 0) (pa_cons pe_str pa_nil)))),?_⟩
  exact ⟨_,rfl,ea,BU,tb,_,rfl,e1,Z.k,k⟩
open Classical in
noncomputable def nofL (rs:List Str) (n:Nat) (p x:Str) (i:Nat):List Nat:=(List.range i).filter fun q=>decide (¬ Fits rs n p q (ch x q))
open Classical in
theorem near_turn {rs:List Str}{n:Nat}{p x:Str}(rx:Row n x):Near rs n p x (turnT n (nofL rs n p x n) x):=by
 have cc:∀ i,i < n->ch (turnT n (nofL rs n p x n) x) i=if i∈nofL rs n p x n then notM (ch x i) else ch x i:=fun i hi=>by
  unfold turnT
  rw [ch_tx hi]
  rfl
 have mem:∀ i,i < n->(i∈nofL rs n p x n↔¬ Fits rs n p i (ch x i)):=fun i hi=>by
  unfold nofL
  rw [List.mem_filter,List.mem_range,decide_eq_true_iff]
  exact ⟨fun h=>h.2,fun h=>⟨hi,h⟩⟩
 refine ⟨turn_row rx,fun i hi f=>?_,fun i hi f=>?_⟩
 ·rw [cc i hi,if_neg (fun w=>(mem i hi).mp w f)]
 ·rw [cc i hi,if_pos ((mem i hi).mpr f)]
  have b:=rx.bin i hi
  unfold notM
  split <;> omega
def spNearest (C BU:Addr):Sp:=fun vs H Q E=>∃(t dx kp bt:Addr) (n m:Nat) (rs:List Str) (x p:Str),vs=[.ref t,.str x,.str p]/\TabAt C H t dx kp bt n m rs/\Row n x/\Borne rs n x/\Pat n p/\1<=n/\n<=12 /\
 (¬ Stands rs n p->Ref H E BU "unmatched")/\(Stands rs n p->∀ z H',Near rs n p x z->Same H H'->Q (.str z) H')
abbrev N_ne:List Str:=["table", "row", "pattern"]
abbrev P_ne:List Str:=["table", "row", "pattern"]
theorem sc_ne:FnScope N_ne P_ne (defScope s_nearest):=⟨rfl,rfl,rfl,by decide +kernel,rfl,by decide +kernel,by decide +kernel⟩
abbrev N_ne1:List Str:=["question", "sign", "table", "pattern"]
theorem nd_ne1:N_ne1.Nodup:=by decide +kernel
open Classical in
theorem ok_nearest {f fk fp fg fu ff:Addr}{fd gk gp gg gu gf:FuncData}(D:Df K mg "nearest" s_nearest P_ne f fd) (Dc:Df K mg "check_ruling" s_cruling Plk fk gk) (Gc:FnOk P w K mg base (CXE P w) 7 fk gk Plk (spCrul C)) (Dp:Df K mg "check_pattern" s_cpat Pip fp gp) (Gp:FnOk P w K mg base (CXE P w) 4 fp gp Pip (spCpat BC)) (Dg:Df K mg "gaps" s_gaps Pgp fg gg) (Gg:FnOk P w K mg base (CXE P w) 5 fg gg Pgp (spGaps C))
  (Du:Df K mg "turned" s_turned P_tu fu gu) (Gu:FnOk P w K mg base (CXE P w) 3 fu gu P_tu (spTurned K)) (Df':Df K mg "fits" s_fits Pft ff gf) (Gf:FnOk P w K mg base (CXE P w) 4 ff gf Pft (spFits C)) (T:Tb K mg C fi fa ft fy fm fc gi ga gt gy gm gc) (X:Xs K mg W BC BS fW fC fS gW gC gS) (Z:Xc K mg W BU fU gU "Unmatched" "Unmatched.__init__" s_uinit) (M:Gm mg):FnOk P w K mg base (CXE P w) 8 f fd P_ne (spNearest C BU):=by
 refine D.F.okE sc_ne (fun vs H Q E h=>?_) (fun cdv A outer s H vs Q E hr h=>?_)
 ·obtain ⟨t,dx,kp,bt,n,m,rs,x,p,rfl,_⟩:=h
  rfl
 ·obtain ⟨t,dx,kp,bt,n,m,rs,x,p,rfl,tab,a1,a2,hp,n1,n12,k3,k4⟩:=h
  refine ⟨_,pss_cons (ps_expr (pe_fn Dc Gc (hr.mono (by decide)) passE (pa_cons (pv 0) (pa_cons (pv 1) pa_nil))))
   (pss_cons (ps_expr (pe_fn Dp Gp (hr.mono (by decide)) passE (pa_cons (pv 2) (pa_cons (pe_fld (pv 0) rfl) pa_nil))))
   (pss_cons (ps_if (pt_truth (pe_fn Dg Gg (hr.mono (by decide)) passE (pa_cons (pv 0) (pa_cons (pv 2) pa_nil))) (fun _=>rfl)) (pss_one (ps_raise rfl passE (pe_xmake0 Z.k Z.i (ok_uinit X Z) (hr.mono (by decide)) (by rfl) Z.m Z.b passE))) pss_nil)
   (PSs.nox (pss_one (ps_ret (pe_fn Du Gu (hr.mono (by decide)) passN (pa_cons (pv 1) (pa_cons (pe_comp (g:=(gTup K 2 (gCons (gName 0) (gCons (gName 1) gNil)))) (N':=N_ne1) (fm:=[none,none,some 0,some 2]) rfl ⟨rfl,by decide +kernel,by decide +kernel,rfl,rfl,rfl⟩ (pi_enum (by rfl) M.enum (pa_cons (pv 1) pa_nil)) (fun _ _ _ _=>(pg_tup rfl (pgs_cons (pg_name (i:=0) nd_ne1 rfl (Or.inl rfl)) (pgs_cons (pg_name (i:=1) nd_ne1 rfl (Or.inl rfl)) pgs_nil)))) (fun _ _ _ _=>(pif_one (pt_not (pt_val (pe_fn Df' Gf (hr.mono (by decide)) passN (pa_cons (pv 2) (pa_cons (pv 3) (pa_cons (pv 0) (pa_cons (pv 1) pa_nil))))))))) (fun _ _ _ _=>(pv 0))) pa_nil)))))))),?_⟩
  refine ⟨_,rfl,_,rfl,t,dx,kp,bt,n,m,rs,x,rfl,tab,a1,a2,n1,n12,fun H1 s1'=>?_⟩
  have tab1:=tab.mono s1'
  refine ⟨_,rfl,_,rfl,t,C,dx,_,_,rfl,tab1.ins,T.cl,T.nQ,rfl,p,n,rfl,by rw [hp.len]; omega,n1,n12,.inl ⟨hp,fun H2 s2=>?_⟩⟩
  have tab2:=tab1.mono s2
  have s02:=s1'.trans' s2
  refine ⟨_,rfl,_,rfl,t,dx,kp,bt,n,m,rs,p,rfl,tab2,hp,n12,fun pg H3 hpg a3=>?_⟩
  obtain ⟨s3,as,e3,t3⟩:=a3
  have s03:=s02.trans' s3
  cases z:pgM rs 0 (ansG p n) with
  | cons k0 kt =>
   rw [z] at t3
   cases as with
   | nil=>exact absurd t3.1 (by simp)
   | cons a0 at' =>
    have ns:¬ Stands rs n p:=fun w=>by rw [gaps_nil w] at z; cases z
    exact ⟨true,.inl ⟨_,SqL.of e3,rfl⟩,iteT fun ea he=>((k3 ns).same s03).raise Z.k he⟩
  | nil =>
   rw [z] at t3
   have:as=[]:=List.length_eq_zero_iff.mp t3.1
   subst this
   have st:=stands_of z
   refine ⟨false,.inl ⟨_,SqL.of e3,rfl⟩,iteF ?_⟩
   have tab3:=tab2.mono s3
   refine ⟨_,rfl,_,rfl,x,rfl,fun pq hpq=>?_⟩
   refine blk_enum (fun i σ H4=>∃ v0 v1,σ=[v0,v1,some (.ref t),some (.str p)]/\Same H3 H4/\H4 pq=some (.lst ((nofL rs n p x i).map iN))) ⟨none,none,rfl,Same.new hpq,upd_same⟩ ?_ ?_
   ·rintro i Tp σ H4 hi hTp ⟨v0,v1,rfl,s4,e4⟩
    rw [a1.len] at hi
    have sT:=Same.new (o:=.tup [.int i,sg x i]) hTp
    have sn:nofL rs n p x (i + 1)=nofL rs n p x i ++ if Fits rs n p i (ch x i) then [] else [i]:=by
     unfold nofL
     rw [List.range_succ,List.filter_append]
     congr 1
     by_cases w:Fits rs n p i (ch x i)
     ·rw [if_pos w]
      exact List.filter_cons_of_neg (by simpa using w)
     ·rw [if_neg w]
      exact List.filter_cons_of_pos (p:=fun q=>decide (¬ Fits rs n p q (ch x q))) (decide_eq_true w)
    have ln:(nofL rs n p x i).length<=12:=by
     unfold nofL
     refine Nat.le_trans (List.length_filter_le _ _) ?_
     rw [List.length_range]
     omega
    refine ⟨Tp,_,rfl,SqT.of upd_same,rfl,_,_,rfl,_,_,rfl,rfl,?_⟩
    refine ⟨_,rfl,_,rfl,_,rfl,_,rfl,t,dx,kp,bt,n,m,rs,p,i,ch x i,rfl,tab3.mono (s4.trans' sT),hp,n12,hi,a1.bin i hi,fun b H5 hb s5=>⟨_,rfl,?_⟩⟩
    have s45:=sT.trans' s5
    by_cases w:Fits rs n p i (ch x i)
    ·rw [hb.mpr w]
     refine iteF ⟨_,_,rfl,s4.trans' s45,?_⟩
     rw [sn,if_pos w,List.append_nil]
     exact s45 _ _ e4
    ·have:b=false:=by cases b with
      | false=>rfl
      | true=>exact absurd (hb.mp rfl) w
     subst this
     refine iteT ⟨_,rfl,_,s45 _ _ e4,?_,_,_,rfl,Same.grow hpq (s4.trans' s45),?_⟩
     ·rw [List.length_map]
      exact Nat.lt_of_le_of_lt ln (by decide)
     ·rw [upd_same,sn,if_neg w,List.map_append]
      rfl
   ·rintro σ H4 ⟨v0,v1,rfl,s4,e4⟩
    rw [a1.len] at e4
    exact ⟨pq,n,nofL rs n p x n,x,rfl,a1,n12,SqL.of e4,fun H5 s5=>k4 st _ H5 (near_turn a1) (s03.trans' (s4.trans' s5))⟩
end
end K63
namespace K63
open PySem L2
open PyProof.Rows (envOfC)
section
variable {P:Program}{w:World}{K:PySem.W.Frag}{mg:Str->Option Value}{base:Heap}{C fi fa ft fy fm fc:Addr}{gi ga gt gy gm gc:FuncData}
theorem TabAt.off {C:Addr}{H:Hp}{t dx kp bt l:Addr}{n m:Nat}{rs:List Str}{xs ys:List V}(h:TabAt C H t dx kp bt n m rs) (hl:H l=some (.lst xs)):TabAt C (upd H l (.lst ys)) t dx kp bt n m rs/\l≠kp/\l≠bt:=by
 obtain ⟨i,c,bvs,e1,e2,r⟩:=h
 have n1:l≠kp:=fun z=>by rw [z,e1] at hl; cases hl
 have n2:l≠bt:=fun z=>by rw [z,e2] at hl; cases hl
 have n3:l≠t:=fun z=>by rw [z,i] at hl; cases hl
 exact ⟨⟨by rw [upd_ne (Ne.symm n3)]; exact i,c,bvs,by rw [upd_ne (Ne.symm n1)]; exact e1,by rw [upd_ne (Ne.symm n2)]; exact e2,r⟩,n1,n2⟩
theorem map_eraseIdx {α β:Type}(f:α->β):∀(l:List α) (k:Nat),(l.map f).eraseIdx k=(l.eraseIdx k).map f
 | [],_=>rfl
 | _ :: _,0=>rfl
 | a :: r,k + 1=>by
  show f a :: (r.map f).eraseIdx k=f a :: (r.eraseIdx k).map f
  rw [map_eraseIdx f r k]
theorem erase_perm {α:Type}:∀{l:List α}{k:Nat}{x:α},l[k]? = some x->l.Perm (x :: l.eraseIdx k)
 | a :: r,0,x,h=>by simp at h; subst h; exact .refl _
 | a :: r,k + 1,x,h=>by
  have h':r[k]? = some x:=by simpa using h
  show (a :: r).Perm (x :: a :: r.eraseIdx k)
  exact ((erase_perm h').cons a).trans (.swap x a _)
end
end K63
namespace K63
open PySem L2
open PyProof.Rows (envOfC)
abbrev s_shift:Stmt:=top 65
theorem add_app {C t dx kp bt l:Addr}{n m:Nat}{rs:List Str}{y:Str}{H1 H2:Hp}(tab:TabAt C H1 t dx kp bt n m rs) (l1:H1 l=some (.lst (rs.map V.str))) (tab2:TabAt C H2 t dx kp bt n (m + 1) (y :: rs)) (k2:Keep2 kp bt H1 H2) :
  H2 l=some (.lst (rs.map V.str))/\TabAt C (upd H2 l (.lst ((rs ++ [y]).map V.str))) t dx kp bt n (m + 1) (rs ++ [y])/\∀ b o,b≠kp->b≠bt->b≠l->H1 b=some o->upd H2 l (.lst ((rs ++ [y]).map V.str)) b=some o:=by
 obtain ⟨_,nk,nb⟩:=tab.off (ys:=[]) l1
 have l2:=k2 l _ nk nb l1
 refine ⟨l2,(tab2.off l2).1.perm (List.perm_append_comm (l₁:=[y]) (l₂:=rs)),fun b o h1 h2 h3 e=>?_⟩
 rw [upd_ne h3]
 exact k2 b o h1 h2 e
def SM (C t dx kp bt l dr:Addr) (n m:Nat) (rs:List Str) (x:Str) (H:Hp):St->Hp->Prop:=fun σ H'=>∃(y:Str) (rs':List Str) (m':Nat),σ=[some (.ref t),some (.ref l),some (.str x),some (.ref dr),some (.str y)]/\Row n y/\TabAt C H' t dx kp bt n m' rs'/\m'<=m + 2/\H' l=some (.lst (rs'.map V.str))/\(∀ z∈rs',Row n z)/\rs'.length<=rs.length/\∀ b o,b≠kp->b≠bt->b≠l->H b=some o->H' b=some o
section
variable {P:Program}{w:World}{K:PySem.W.Frag}{mg:Str->Option Value}{base:Heap}{C fi fa ft fy fm fc:Addr}{gi ga gt gy gm gc:FuncData}
def spShift (C:Addr):Sp:=fun vs H Q _=>∃(t dx kp bt l dr:Addr) (n m:Nat) (rs:List Str) (x:Str) (d0 d1 d2 d3 d4:Int),vs=[.ref t,.ref l,.str x,.ref dr]/\TabAt C H t dx kp bt n m rs/\H l=some (.lst (rs.map V.str))/\(∀ y∈rs,Row n y)/\Row n x/\H dr=some (.lst [.int d0,.int d1,.int d2,.int d3,.int d4])/\1<=n/\n<=12/\m<=900/\rs.length<=98 /\
 ∀ H' rs' m',TabAt C H' t dx kp bt n m' rs'->m'<=m + 3->H' l=some (.lst (rs'.map V.str))->(∀ y∈rs',Row n y)->rs'.length<=rs.length + 1->(∀ b o,b≠kp->b≠bt->b≠l->H b=some o->H' b=some o)->Q .non H'
abbrev N_sh:List Str:=["_law_made", "_law_rows_here", "_law_fresh", "_law_drawn", "_law_row"]
abbrev P_sh:List Str:=["_law_made", "_law_rows_here", "_law_fresh", "_law_drawn"]
theorem sc_sh:FnScope N_sh P_sh (defScope s_shift):=⟨rfl,rfl,rfl,by decide +kernel,rfl,by decide +kernel,by decide +kernel⟩
theorem ok_shift {f:Addr}{fd:FuncData}(D:Df K mg "_law_shift" s_shift P_sh f fd) (T:Tb K mg C fi fa ft fy fm fc gi ga gt gy gm gc) (Ga:FnOk P w K mg base (CXE P w) 4 fa ga Pta (spTadd C)) (Gt:FnOk P w K mg base (CXE P w) 4 ft gt Pta (spTtake C)) (B:Bt mg):FnOk P w K mg base (CXE P w) 5 f fd P_sh (spShift C):=by
 refine D.F.okN sc_sh (fun vs H Q E h=>?_) (fun cdv A outer s H vs Q E hr h=>?_)
 ·obtain ⟨t,dx,kp,bt,l,dr,n,m,rs,x,d0,d1,d2,d3,d4,rfl,_⟩:=h
  rfl
 ·obtain ⟨t,dx,kp,bt,l,dr,n,m,rs,x,d0,d1,d2,d3,d4,rfl,tab,hl,hrs,hx,hd,n1,n12,m1,l99,k⟩:=h
  have hu:(A.deeper (envOfC "_law_shift" (defScope s_shift) s.heap.objs.size f cdv)).units < cLine:=hr.units0
  refine ⟨_,pss_cons (ps_if (PW.pt (pw_or (pt_cmpR (op_eqNil hu) (pv 1) (pe_lst pa_nil) (nomark _)) (pw_or1 (pt_cmpR op_lt (pe_ix ix_list (pv 3) pe_int (fun _ _=>rfl)) pe_int (nomark _))))) (pss_cons (ps_expr (pe_meth (pv 0) T.cl T.ma Ga (hr.mono (by decide)) T.ba .nil passN (pa_cons (pv 2) pa_nil)))
   (pss_cons (ps_expr (pe_bm PySem.F.plainAttrs_list PySem.F.slot_list_append PySem.F.type_list_append mt_append (pv 1) (pa_cons (pv 2) pa_nil)))
   (pss_one ps_retN))) pss_nil)
   (pss_cons (ps_set (i:=4) sc_sh.nd rfl (Or.inl rfl) (pe_bm PySem.F.plainAttrs_list PySem.F.slot_list_pop PySem.F.type_list_pop mt_popAt (pv 1) (pa_cons (pe_op op_mod (pe_ix ix_list (pv 3) pe_int (fun _ _=>rfl)) (pe_callB call_len_seq (by rfl) B.len PySem.boot_len (pa_cons (pv 1) pa_nil))) pa_nil)))
   (pss_cons (ps_expr (pe_meth (pv 0) T.cl T.mt Gt (hr.mono (by decide)) T.bt .nil passN (pa_cons (pv 4) pa_nil)))
   (pss_cons (ps_cut (SM C t dx kp bt l dr n m rs x H) (ps_if (pt_cmpR op_in_seq (pe_ix ix_list (pv 3) pe_int (fun _ _=>rfl)) (pe_tup (pa_cons pe_int (pa_cons pe_int pa_nil))) (by rfl)) (pss_cons (ps_expr (pe_meth (pv 0) T.cl T.ma Ga (hr.mono (by decide)) T.ba .nil passN (pa_cons (pv 2) pa_nil)))
   (pss_one (ps_expr (pe_bm PySem.F.plainAttrs_list PySem.F.slot_list_append PySem.F.type_list_append mt_append (pv 1) (pa_cons (pv 2) pa_nil))))) pss_nil))
   (pss_one (ps_if (pt_cmpR op_eq (pe_ix ix_list (pv 3) pe_int (fun _ _=>rfl)) pe_int (nomark _)) (pss_cons (ps_expr (pe_meth (pv 0) T.cl T.ma Ga (hr.mono (by decide)) T.ba .nil passN (pa_cons (pv 4) pa_nil)))
   (pss_one (ps_expr (pe_bm PySem.F.plainAttrs_list PySem.F.slot_list_append PySem.F.type_list_append mt_append (pv 1) (pa_cons (pv 4) pa_nil))))) pss_nil))))),?_⟩
  have snoc:∀(rs1:List Str) (y:Str),rs1.map V.str ++ [V.str y]=(rs1 ++ [y]).map V.str:=fun rs1 y=>by rw [List.map_append]; rfl
  have small:∀ rs1:List Str,rs1.length<=100->(rs1.map V.str).length < sizeLine:=fun rs1 h=>by rw [List.length_map]; exact Nat.lt_of_le_of_lt h (by decide)
  have put:∀(rs1:List Str) (y:Str),(∀ z∈rs1,Row n z)->Row n y->∀ z∈rs1 ++ [y],Row n z:=fun rs1 y h1 h2 z hz=>by
   rcases List.mem_append.mp hz with hz | hz
   ·exact h1 z hz
   ·rw [List.mem_singleton.mp hz]; exact h2
  refine ⟨_,rfl,Nat.zero_le _,fun pe hpe=>?_⟩
  have se:=Same.new (o:=.lst []) hpe
  obtain ⟨_,nk,nb⟩:=tab.off (ys:=[]) hl
  obtain ⟨_,dk,db⟩:=tab.off (ys:=[]) hd
  have dl:dr≠l:=ne_of hd hl fun z=>by
   injection z with z
   cases rs with
   | nil=>cases z
   | cons a r=>injection z with z _; cases z
  have addT:∀{H1:Hp} {rs1:List Str} {m1:Nat} {y:Str},TabAt C H1 t dx kp bt n m1 rs1->H1 l=some (.lst (rs1.map V.str))->Row n y->m1<=1000->∀ R:Hp->Prop,(∀ H2,H2 l=some (.lst (rs1.map V.str))->TabAt C (upd H2 l (.lst ((rs1 ++ [y]).map V.str))) t dx kp bt n (m1 + 1) (rs1 ++ [y])->(∀ b o,b≠kp->b≠bt->b≠l->H1 b=some o->upd H2 l (.lst ((rs1 ++ [y]).map V.str)) b=some o)->R H2)->spTadd C [.ref t,.str y] H1 (fun _ H2=>R H2) E0:=fun {H1 rs1 m1 y} t1 e1 ry mm R r =>
   ⟨t,dx,kp,bt,n,m1,rs1,y,rfl,t1,ry,n1,n12,mm,fun H2 tab2 k2=>by
    obtain ⟨a1,a2,a3⟩:=add_app t1 e1 tab2 k2
    exact r H2 a1 a2 a3⟩
  have tabE:=tab.mono se
  have eE:=se _ _ hl
  refine ⟨l,pe,_,rfl,rfl,SqL.of eE,SqL.of upd_same,_,rfl,ite2 (fun c=>iteT ?_) (fun c=>?_)⟩
  ·refine ⟨_,rfl,t,dx,_,rfl,tabE.ins,rfl,_,rfl,addT tabE eE hx (by omega) _ fun H2 a1 a2 a3=>?_⟩
   refine ⟨_,rfl,.inl ⟨rfl,_,SqL.of a1⟩,_,rfl,l,_,_,rfl,rfl,a1,small _ (by omega),?_⟩
   rw [snoc]
   exact k _ _ _ a2 (by omega) upd_same (put _ _ hrs hx) (by rw [List.length_append]; exact Nat.le_refl _) fun b o h1 h2 h3 e=>a3 b o h1 h2 h3 (se b o e)
  refine ⟨_,rfl,dr,_,_,_,rfl,rfl,SqL.of (se _ _ hd),(show _=some (V.int d0) from rfl),_,_,rfl,rfl,_,rfl,ite2 (fun c2=>?_) (fun c2=>?_)⟩
  ·refine ⟨_,rfl,t,dx,_,rfl,tabE.ins,rfl,_,rfl,addT tabE eE hx (by omega) _ fun H2 a1 a2 a3=>?_⟩
   refine ⟨_,rfl,.inl ⟨rfl,_,SqL.of a1⟩,_,rfl,l,_,_,rfl,rfl,a1,small _ (by omega),?_⟩
   rw [snoc]
   exact k _ _ _ a2 (by omega) upd_same (put _ _ hrs hx) (by rw [List.length_append]; exact Nat.le_refl _) fun b o h1 h2 h3 e=>a3 b o h1 h2 h3 (se b o e)
  have z0:0 < rs.length:=by
   cases rs with
   | nil=>exact absurd rfl c
   | cons _ _=>simp
  have lpos:(0:Int) < ((rs.map V.str).length:Nat):=by rw [List.length_map]; omega
  have jb:0<=d1 % ((rs.map V.str).length:Nat)/\d1 % ((rs.map V.str).length:Nat) < ((rs.map V.str).length:Nat):=⟨Int.emod_nonneg _ (by omega),Int.emod_lt_of_pos _ lpos⟩
  obtain ⟨j,hj⟩:∃ j:Nat,(j:Int)=d1 % ((rs.map V.str).length:Nat):=⟨(d1 % ((rs.map V.str).length:Nat)).toNat,by omega⟩
  have jl:j < rs.length:=by rw [List.length_map] at jb hj; omega
  obtain ⟨y,hy⟩:∃ y,rs[j]? = some y:=⟨_,List.getElem?_eq_getElem jl⟩
  have hix:seqIndex? (d1 % ((rs.map V.str).length:Nat)) (rs.map V.str).length=some j:=by
   rw [<- hj]
   exact seqIndex_of (by omega) (by rw [List.length_map]; omega)
  have ry:=hrs y (List.mem_of_getElem? hy)
  refine ⟨_,rfl,.inl ⟨rfl,_,SqL.of eE⟩,_,rfl,dr,_,_,_,rfl,rfl,SqL.of (se _ _ hd),(show _=some (V.int d1) from rfl),_,rfl,l,_,rfl,.inl (SqL.of eE),_,_,rfl,rfl,lpos,l,_,_,j,.str y,rfl,rfl,eE,?_,?_,hix,(by rw [List.getElem?_map,hy]; rfl),?_⟩
  ·rw [List.length_map] at jb ⊢; omega
  ·rw [List.length_map] at jb ⊢; omega
  rw [map_eraseIdx]
  obtain ⟨tab1,_,_⟩:=tabE.off (ys:=(rs.eraseIdx j).map V.str) eE
  refine ⟨_,rfl,t,dx,_,rfl,tab1.ins,rfl,_,rfl,t,dx,kp,bt,n,m,rs,rs.eraseIdx j,y,rfl,tab1,erase_perm hy,ry,n1,n12,by omega,fun H2 tab2 k2=>?_⟩
  have l2:=k2 l _ nk nb upd_same
  have le2:(rs.eraseIdx j).length=rs.length - 1:=List.length_eraseIdx_of_lt jl
  have keep2:∀ b o,b≠kp->b≠bt->b≠l->H b=some o->H2 b=some o:=fun b o h1 h2 h3 e=>k2 b o h1 h2 (by rw [upd_ne h3]; exact se b o e)
  have hrs2:∀ z∈rs.eraseIdx j,Row n z:=fun z hz=>hrs z ((erase_perm hy).mem_iff.mpr (List.mem_cons_of_mem _ hz))
  have hd2:=keep2 dr _ dk db dl hd
  refine ⟨?_,?_⟩
  ·refine ⟨_,rfl,dr,_,_,_,rfl,rfl,SqL.of hd2,(show _=some (V.int d0) from rfl),len_le (show 2<=100 by decide),fun Tp nT=>⟨Tp,_,rfl,.inr (SqT.of upd_same),rfl,rfl,_,rfl,?_⟩⟩
   have sT:=Same.new (o:=.tup [.int 3,.int 4]) nT
   have tab3:=tab2.mono sT
   have l3:=sT _ _ l2
   refine ite2 (fun c3=>?_) (fun c3=>?_)
   ·refine ⟨_,rfl,t,dx,_,rfl,tab3.ins,rfl,_,rfl,addT tab3 l3 hx (by omega) _ fun H4 a1 a2 a3=>?_⟩
    refine ⟨_,rfl,.inl ⟨rfl,_,SqL.of a1⟩,_,rfl,l,_,_,rfl,rfl,a1,small _ (by omega),?_⟩
    rw [snoc]
    exact ⟨y,_,_,rfl,ry,a2,by omega,upd_same,put _ _ hrs2 hx,by rw [List.length_append,le2]; show rs.length - 1 + 1<=_; omega,fun b o h1 h2 h3 e=>a3 b o h1 h2 h3 (sT b o (keep2 b o h1 h2 h3 e))⟩
   ·exact ⟨y,_,_,rfl,ry,tab3,by omega,l3,hrs2,by omega,fun b o h1 h2 h3 e=>sT b o (keep2 b o h1 h2 h3 e)⟩
  ·rintro σ' H4 ⟨y',rs',m',rfl,ry',tab4,m4,l4,hrs4,len4,keep4⟩
   refine ⟨_,rfl,dr,_,_,_,rfl,rfl,SqL.of (keep4 dr _ dk db dl hd),(show _=some (V.int d0) from rfl),rfl,_,rfl,ite2 (fun c3=>?_) (fun c3=>?_)⟩
   ·refine ⟨_,rfl,t,dx,_,rfl,tab4.ins,rfl,_,rfl,addT tab4 l4 ry' (by omega) _ fun H5 a1 a2 a3=>?_⟩
    refine ⟨_,rfl,.inl ⟨rfl,_,SqL.of a1⟩,_,rfl,l,_,_,rfl,rfl,a1,small _ (by omega),?_⟩
    rw [snoc]
    exact k _ _ _ a2 (by omega) upd_same (put _ _ hrs4 ry') (by rw [List.length_append]; show rs'.length + 1<=_; omega) fun b o h1 h2 h3 e=>a3 b o h1 h2 h3 (keep4 b o h1 h2 h3 e)
   ·exact k _ _ _ tab4 (by omega) l4 hrs4 (by omega) keep4
end
end K63
namespace K63
open PySem L2
open PyProof.Rows (envOfC)
abbrev s_lgaps:Stmt:=top 66
def plL (x:Str) (n:Nat):List Nat:=(List.range n).filter fun q=>decide (¬ ch x q=45)
theorem pl_succ (x:Str) (n:Nat):plL x (n + 1)=if ch x n=45 then plL x n else plL x n ++ [n]:=by
 unfold plL
 rw [List.range_succ,List.filter_append]
 by_cases z:ch x n=45
 ·simp [z]
 ·simp [z]
theorem pl_len (x:Str) (n:Nat):(plL x n).length<=n:=by
 unfold plL
 exact Nat.le_trans (List.length_filter_le _ _) (by rw [List.length_range]; exact Nat.le_refl n)
theorem pl_mem {x:Str}{n q:Nat}:q∈plL x n↔q < n/\¬ ch x q=45:=by
 unfold plL
 rw [List.mem_filter,List.mem_range]
 simp
theorem at_ch {x:Str}{i:Nat}(h:i < x.length):atI x.cps.toList (i:Int)=some (ch x i):=by
 refine atI_nat ?_
 rw [Array.getElem?_toList]
 exact sg_at h
def Prs (H:Hp) (p:Addr) (ps:List (Nat×Nat)):Prop:=∃ as:List Addr,H p=some (.lst (as.map V.ref))/\as.length=ps.length/\∀(i:Nat) (a:Addr) (q:Nat×Nat),as[i]? = some a->ps[i]? = some q->H a=some (.tup [.int q.1,.int q.2])
theorem Prs.mono {H H':Hp}{p:Addr}{ps:List (Nat×Nat)}(h:Prs H p ps) (s:Same H H'):Prs H' p ps:=by
 obtain ⟨as,e,l,g⟩:=h
 exact ⟨as,s _ _ e,l,fun i a q h1 h2=>s _ _ (g i a q h1 h2)⟩
theorem Prs.snoc {H:Hp}{p T:Addr}{ps:List (Nat×Nat)}{q:Nat×Nat}(h:Prs H p ps) (hT:H T=none):∃ xs,(upd H T (.tup [.int q.1,.int q.2])) p=some (.lst xs)/\xs.length=ps.length/\Prs (upd (upd H T (.tup [.int q.1,.int q.2])) p (.lst (xs ++ [.ref T]))) p (ps ++ [q]):=by
 obtain ⟨as,e,l,g⟩:=h
 have s:=Same.new (o:=.tup [.int q.1,.int q.2]) hT
 refine ⟨_,s _ _ e,by rw [List.length_map,l],as ++ [T],by rw [upd_same,List.map_append]; rfl,by rw [List.length_append,List.length_append,l]; rfl,fun i a z h1 h2=>?_⟩
 have ne:∀ b o,(upd H T (.tup [.int q.1,.int q.2])) b=some (.tup o)->b≠p:=fun b o e' z=>by rw [z,s _ _ e] at e'; cases e'
 by_cases c:i < as.length
 ·rw [List.getElem?_append_left c] at h1
  rw [List.getElem?_append_left (by omega)] at h2
  have:=s _ _ (g i a z h1 h2)
  rw [upd_ne (ne _ _ this)]
  exact this
 ·have ei:i=as.length:=by
   have:=(List.getElem?_eq_some_iff.mp h1).1
   rw [List.length_append] at this
   have:i < as.length + 1:=this
   omega
  rw [List.getElem?_append_right (by omega),show i - as.length=0 by omega] at h1
  rw [List.getElem?_append_right (by omega),show i - ps.length=0 by omega] at h2
  cases h1
  cases h2
  rw [upd_ne (ne T _ upd_same)]
  exact upd_same
section
variable {P:Program}{w:World}{K:PySem.W.Frag}{mg:Str->Option Value}{base:Heap}
def spLgaps (K:PySem.W.Frag):Sp:=fun vs H Q _=>∃(l:Addr) (n:Nat) (rs:List Str) (x:Str),vs=[.ref l,.str x]/\SqL K H l (rs.map V.str)/\(∀ y∈rs,Row n y)/\Pat n x/\n<=12 /\
 ∀ p H' ps,Same H H'->Prs H' p ps->ps.length<=144->(∀ q r,Nobody rs n x q r->(q,r)∈ps)->Q (.ref p) H'
abbrev N_lg:List Str:=["_law_rows_here", "_law_text", "_law_asked", "_law_found", "_law_q", "_law_r"]
abbrev P_lg:List Str:=["_law_rows_here", "_law_text"]
theorem sc_lg:FnScope N_lg P_lg (defScope s_lgaps):=⟨rfl,rfl,rfl,by decide +kernel,rfl,by decide +kernel,by decide +kernel⟩
abbrev N_lg1:List Str:=["_law_q", "_law_text"]
theorem nd_lg1:N_lg1.Nodup:=by decide +kernel
theorem ok_lgaps {f fb:Addr}{fd gb:FuncData}(D:Df K mg "_law_gaps" s_lgaps P_lg f fd) (Db:Df K mg "_law_bears" s_bears Pbe fb gb) (Gb:FnOk P w K mg base (CXE P w) 1 fb gb Pbe (spBears K)) (B:Bt mg):FnOk P w K mg base (CXE P w) 2 f fd P_lg (spLgaps K):=by
 refine D.F.okN sc_lg (fun vs H Q E h=>?_) (fun cdv A outer s H vs Q E hr h=>?_)
 ·obtain ⟨l,n,rs,x,rfl,_⟩:=h
  rfl
 ·obtain ⟨l,n,rs,x,rfl,hl,hrs,hp,n12,k⟩:=h
  refine ⟨_,pss_cons (ps_comp (i:=2) (N':=N_lg1) (fm:=[none,some 1]) rfl sc_lg.nd rfl rfl ⟨rfl,by decide +kernel,by decide +kernel,rfl,rfl,rfl⟩ (pi_range1 (by rfl) B.range (pa_cons (pe_callB call_len_str (by rfl) B.len PySem.boot_len (pa_cons (pv 1) pa_nil)) pa_nil)) (fun _ _ _ _=>(pg_name (i:=0) nd_lg1 rfl (Or.inl rfl))) (fun _ _ _ _=>(pif_one (pt_cmpR op_ne (pe_ix ix_str (pv 1) (pv 0) (fun _ _=>rfl)) pe_str (nomark _)))) (fun _ _ _ _=>(pv 0)))
   (pss_cons (ps_set (i:=3) sc_lg.nd rfl (Or.inl rfl) (pe_lst pa_nil))
   (pss_cons (ps_for PassesOwn.never rfl (pi_list (pv 2)) (pg_name (i:=4) sc_lg.nd rfl (Or.inl rfl))
   (pss_one (ps_for PassesOwn.never rfl (pi_list (pv 2)) (pg_name (i:=5) sc_lg.nd rfl (Or.inl rfl))
   (pss_one (ps_if (PW.pt (pw_and (pt_cmpR op_ge (pv 5) (pv 4) (nomark _)) (pw_and1 (pt_not (pt_val (pe_fn Db Gb (hr.mono (by decide)) passN (pa_cons (pv 0) (pa_cons (pv 4) (pa_cons (pe_ix ix_str (pv 1) (pv 4) (fun _ _=>rfl)) (pa_cons (pv 5) (pa_cons (pe_ix ix_str (pv 1) (pv 5) (fun _ _=>rfl)) pa_nil))))))))))) (pss_one (ps_expr (pe_bm PySem.F.plainAttrs_list PySem.F.slot_list_append PySem.F.type_list_append mt_append (pv 3) (pa_cons (pe_tup (pa_cons (pv 4) (pa_cons (pv 5) pa_nil))) pa_nil)))) pss_nil)))))
   (pss_one (ps_ret (pv 3))))),?_⟩
  have lx:x.length<=sizeLine:=by rw [hp.len]; exact len_le (by omega)
  refine ⟨_,rfl,_,rfl,lx,_,rfl,by omega,by rw [hp.len]; omega,fun a na=>?_⟩
  have en:((x.length:Nat):Int).toNat=n:=by rw [hp.len]; omega
  rw [en]
  refine blk_range (fun i σ H2=>∃ u,σ=[u,some (.str x)]/\Same H H2/\H2 a=some (.lst ((plL x i).map iN))) ⟨none,rfl,Same.new na,upd_same⟩ ?_ ?_
  ·rintro i σ H2 hi ⟨u,rfl,s2,e2⟩
   rw [Int.zero_add]
   have ati:atI x.cps.toList (i:Int)=some (ch x i):=at_ch (by rw [hp.len]; exact hi)
   have ln:(plL x i).length<=12:=Nat.le_trans (pl_len x i) (by omega)
   refine ⟨_,rfl,_,rfl,_,_,_,rfl,rfl,lx,ati,rfl,_,rfl,?_⟩
   show if (!decide (s1 (ch x i)=s1 45))=true then _ else _
   rw [dec_s1]
   by_cases c:ch x i=45
   ·rw [decide_eq_true c]
    refine iteF ⟨_,rfl,s2,?_⟩
    rw [pl_succ,if_pos c]
    exact e2
   ·rw [decide_eq_false c]
    refine iteT ⟨_,rfl,_,e2,?_,_,rfl,Same.grow na s2,?_⟩
    ·rw [List.length_map]; exact Nat.lt_of_le_of_lt ln (by decide)
    ·rw [upd_same,pl_succ,if_neg c,List.map_append]; rfl
  ·rintro σ H2 ⟨u,rfl,s2,e2⟩
   have lp12:(plL x n).length<=12:=Nat.le_trans (pl_len x n) n12
   refine ⟨Nat.zero_le _,fun p np=>?_⟩
   have sp:=Same.new (o:=.lst []) np
   have at':∀{i:Nat} {v:V},((plL x n).map iN)[i]? = some v->∃ q,(plL x n)[i]? = some q/\v=.int (q:Nat)/\q < n/\¬ ch x q=45:=fun {i v} hi=>by
    rw [List.getElem?_map] at hi
    cases z:(plL x n)[i]? with
    | none=>rw [z] at hi; cases hi
    | some q =>
     rw [z] at hi
     cases hi
     obtain ⟨h1,h2⟩:=pl_mem.mp (List.mem_of_getElem? z)
     exact ⟨q,rfl,rfl,h1,h2⟩
   refine ⟨_,rfl,a,rfl,⟨_,SqL.of (sp _ _ e2)⟩,?_⟩
   refine for_list (K:=K) (a:=a) (xs:=(plL x n).map iN) (fun i σ H3=>∃ v4 v5 ps,σ=[some (.ref l),some (.str x),some (.ref a),some (.ref p),v4,v5]/\Same H2 H3/\Prs H3 p ps/\ps.length<=12 * i/\∀(i':Nat) q r,i' < i->(plL x n)[i']? = some q->Nobody rs n x q r->(q,r)∈ps)
    ⟨none,none,[],rfl,sp,⟨[],upd_same,rfl,fun i a q h=>by simp at h⟩,Nat.zero_le _,fun i' q r h=>by omega⟩ (fun i σ H3 _ ⟨_,_,_,_,s3,_⟩=>SqL.of (s3 _ _ e2)) ?_ ?_
   ·rintro i v σ H3 hi ⟨v4,v5,ps,rfl,s3,pr,lps,al⟩
    obtain ⟨q,hq,rfl,qn,qc⟩:=at' hi
    refine ⟨_,rfl,a,rfl,⟨_,SqL.of (s3 _ _ e2)⟩,?_⟩
    refine for_list (K:=K) (a:=a) (xs:=(plL x n).map iN) (fun j σ H4=>∃ v5 ps',σ=[some (.ref l),some (.str x),some (.ref a),some (.ref p),some (.int (q:Nat)),v5]/\Same H2 H4/\Prs H4 p ps'/\ps'.length<=12 * i + j/\(∀ z,z∈ps->z∈ps')/\∀(j':Nat) r,j' < j->(plL x n)[j']? = some r->Nobody rs n x q r->(q,r)∈ps')
     ⟨_,ps,rfl,s3,pr,lps,fun z h=>h,fun j' r h=>by omega⟩ (fun j σ H4 _ ⟨_,_,_,s4,_⟩=>SqL.of (s4 _ _ e2)) ?_ ?_
    ·rintro j v σ H4 hj ⟨v5,ps',rfl,s4,pr4,lps4,sub,al4⟩
     obtain ⟨r,hr',rfl,rn,rc⟩:=at' hj
     have jl:j < 12:=by have:=(List.getElem?_eq_some_iff.mp hr').1; omega
     have il:i < 12:=by have:=(List.getElem?_eq_some_iff.mp hq).1; omega
     have skip:¬ Nobody rs n x q r->∃ v5 ps'_1,[some (V.ref l),some (V.str x),some (V.ref a),some (V.ref p),some (V.int (q:Nat)),some (V.int (r:Nat))]=[some (.ref l),some (.str x),some (.ref a),some (.ref p),some (.int (q:Nat)),v5]/\Same H2 H4/\Prs H4 p ps'_1/\ps'_1.length<=12 * i + (j + 1)/\(∀ z,z∈ps->z∈ps'_1)/\∀(j':Nat) r,j' < j + 1->(plL x n)[j']? = some r->Nobody rs n x q r->(q,r)∈ps'_1:=fun no =>
      ⟨_,ps',rfl,s4,pr4,by omega,sub,fun j' r' h1 h2 h3=>by
       by_cases c:j' < j
       ·exact al4 j' r' c h2 h3
       ·have:j'=j:=by omega
        subst this
        rw [hr'] at h2
        cases h2
        exact absurd h3 no⟩
     refine ⟨_,rfl,_,rfl,_,_,rfl,rfl,_,rfl,ite2 (fun c=>?_) (fun c=>iteF (skip fun z=>c (decide_eq_true (by have:=z.1; omega))))⟩
     have c:(q:Int)<=r:=of_decide_eq_true c
     refine ⟨_,rfl,_,rfl,_,rfl,_,rfl,_,_,_,rfl,rfl,lx,at_ch (by rw [hp.len]; exact qn),_,rfl,_,rfl,_,rfl,_,_,_,rfl,rfl,lx,at_ch (by rw [hp.len]; exact rn),l,n,rs,q,ch x q,r,ch x r,rfl,(s2.trans' s4).seq hl,hrs,n12,qn,rn,_,rfl,?_⟩
     by_cases b:0 < cntB rs q (ch x q) r (ch x r)
     ·rw [decide_eq_true b]
      exact iteF (skip fun z=>by have:=z.2.2.2.2.2; omega)
     ·rw [decide_eq_false b]
      refine iteT ⟨_,rfl,?_,_,rfl,_,rfl,len_le (show 2<=100 by decide),fun T nT=>?_⟩
      ·obtain ⟨as,e,_⟩:=pr4
       exact .inl ⟨rfl,_,SqL.of e⟩
      obtain ⟨xs,e5,l5,pr5⟩:=pr4.snoc (q:=(q,r)) nT
      refine ⟨p,xs,_,rfl,rfl,e5,?_,_,ps' ++ [(q,r)],rfl,fun b o e=>?_,pr5,?_,fun z h=>List.mem_append_left _ (sub z h),fun j' r' h1 h2 h3=>?_⟩
      ·rw [l5]; exact Nat.lt_of_le_of_lt (show ps'.length<=1000 by omega) (by decide)
      ·rw [upd_ne (ne_of_none e np)]
       exact Same.new nT _ _ (s4 _ _ e)
      ·rw [List.length_append]; show ps'.length + 1<=_; omega
      ·by_cases c:j' < j
       ·exact List.mem_append_left _ (al4 j' r' c h2 h3)
       ·have:j'=j:=by omega
        subst this
        rw [hr'] at h2
        cases h2
        exact List.mem_append_right _ (List.mem_singleton.mpr rfl)
    ·rintro σ H4 ⟨v5,ps',rfl,s4,pr4,lps4,sub,al4⟩
     refine ⟨_,_,ps',rfl,s4,pr4,?_,fun i' q' r h1 h2 h3=>?_⟩
     ·rw [List.length_map] at lps4; omega
     ·by_cases c:i' < i
      ·exact sub _ (al i' q' r c h2 h3)
      ·have:i'=i:=by omega
       subst this
       rw [hq] at h2
       cases h2
       obtain ⟨j',hj'⟩:=List.getElem?_of_mem (pl_mem.mpr ⟨h3.2.2.1,h3.2.2.2.2.1⟩)
       exact al4 j' r (by rw [List.length_map]; exact (List.getElem?_eq_some_iff.mp hj').1) hj' h3
   ·rintro σ H3 ⟨v4,v5,ps,rfl,s3,pr,lps,al⟩
    refine ⟨_,rfl,k p H3 ps (s2.trans' s3) pr ?_ fun q r h=>?_⟩
    ·rw [List.length_map] at lps; omega
    ·obtain ⟨i',hi'⟩:=List.getElem?_of_mem (pl_mem.mpr ⟨h.2.1,h.2.2.2.1⟩)
     exact al i' q r (by rw [List.length_map]; exact (List.getElem?_eq_some_iff.mp hi').1) hi' h
end
end K63
namespace K63
open PySem L2
open PyProof.Rows (envOfC)
abbrev s_goes:Stmt:=top 58
abbrev s_rul:Stmt:=top 59
section
variable {P:Program}{w:World}{K:PySem.W.Frag}{mg:Str->Option Value}{base:Heap}{C fi fa ft fy fm fc:Addr}{gi ga gt gy gm gc:FuncData}
def spGoes (K:PySem.W.Frag):Sp:=fun vs H Q _=>∃(l:Addr) (n k:Nat) (rs:List Str) (t:Str) (a:Nat),vs=[.ref l,.str t,s1 a]/\SqL K H l (rs.map V.str)/\(∀ x∈rs,Row n x)/\n<=12/\Row k t/\k < n/\∀ b:Bool,(b=true↔Goes rs k t a)->Q (.bl b) H
abbrev Ngo:List Str:=["_law_rows_here", "_law_text", "_law_sign", "_law_at", "_law_q"]
abbrev Pgo:List Str:=["_law_rows_here", "_law_text", "_law_sign"]
theorem sc_goes:FnScope Ngo Pgo (defScope s_goes):=⟨rfl,rfl,rfl,by decide +kernel,rfl,by decide +kernel,by decide +kernel⟩
theorem ok_goes {f fb:Addr}{fd gb:FuncData}(D:Df K mg "_law_goes_in" s_goes Pgo f fd) (Db:Df K mg "_law_bears" s_bears Pbe fb gb) (B:Bt mg):FnOk P w K mg base (CXE P w) 2 f fd Pgo (spGoes K):=by
 refine D.F.okN sc_goes (fun vs H Q E h=>?_) (fun cdv A outer s H vs Q E hr h=>?_)
 ·obtain ⟨l,n,k,rs,t,a,rfl,_⟩:=h
  rfl
 ·obtain ⟨l,n,k,rs,t,a,rfl,hl,hrs,n12,ht,kn,kk⟩:=h
  refine ⟨_,pss_cons (ps_set (i:=3) sc_goes.nd rfl (Or.inl rfl) (pe_callB call_len_str (by rfl) B.len PySem.boot_len (pa_cons (pv 1) pa_nil)))
   (pss_cons (ps_for PassesOwn.never rfl (pi_range1 (by rfl) B.range (pa_cons (pv 3) pa_nil)) (pg_name (i:=4) sc_goes.nd rfl (Or.inl rfl))
    (pss_one (ps_if (pt_not (pt_val (pe_fn Db (ok_bears Db) hr passN (pa_cons (pv 0) (pa_cons (pv 4) (pa_cons (pe_ix ix_str (pv 1) (pv 4) (fun _ _=>rfl)) (pa_cons (pv 3) (pa_cons (pv 2) pa_nil)))))))) (pss_one (ps_ret pe_bl)) pss_nil)))
   (pss_one (ps_ret (pe_fn Db (ok_bears Db) hr passN (pa_cons (pv 0) (pa_cons (pv 3) (pa_cons (pv 2) (pa_cons (pv 3) (pa_cons (pv 2) pa_nil))))))))),?_⟩
  have sz:t.length<=sizeLine:=by rw [ht.len]; exact len_le (by omega)
  refine ⟨_,rfl,_,rfl,sz,?_⟩
  rw [ht.len]
  refine ⟨_,rfl,_,rfl,by omega,by omega,?_⟩
  have en:((k:Nat):Int).toNat=k:=by omega
  rw [en]
  refine for_range (fun i σ H2=>∃ v4,σ=[some (.ref l),some (.str t),some (s1 a),some (.int k),v4]/\H2=H/\∀ q,q < i->0 < cntB rs q (ch t q) k a) ⟨none,rfl,rfl,fun q hq=>by omega⟩ ?_ ?_
  ·rintro i σ H2 hi ⟨v4,rfl,rfl,al⟩
   rw [Int.zero_add]
   refine ⟨_,rfl,_,rfl,_,rfl,_,rfl,_,_,_,rfl,rfl,sz,ch_at ht hi,_,rfl,_,rfl,l,n,rs,i,ch t i,k,a,rfl,hl,hrs,n12,by omega,kn,_,rfl,?_⟩
   by_cases c:0 < cntB rs i (ch t i) k a
   ·rw [decide_eq_true c]
    refine iteF ⟨_,rfl,rfl,fun q hq=>?_⟩
    by_cases e:q=i
    ·rw [e]; exact c
    ·exact al q (by omega)
   ·rw [decide_eq_false c]
    exact iteT (kk false ⟨(fun w=>by cases w),(fun w=>absurd (w.1 i hi) c)⟩)
  ·rintro σ H2 ⟨v4,rfl,rfl,al⟩
   refine ⟨_,rfl,_,rfl,_,rfl,_,rfl,_,rfl,l,n,rs,k,a,k,a,rfl,hl,hrs,n12,kn,kn,?_⟩
   exact kk _ ⟨fun w=>⟨al,of_decide_eq_true w⟩,fun w=>decide_eq_true w.2⟩
end
end K63
namespace K63
open PySem L2
open PyProof.Rows (envOfC)
abbrev s_word:Stmt:=top 62
theorem tx_app {k a:Nat}{t:Str}(h:t.length=k):t ++ (⟨#[a]⟩:Str)=tx (k + 1) (fun i=>if i < k then ch t i else a):=by
 rw [<- tx_snoc' (i:=k) (c:=fun i=>if i < k then ch t i else a) (d:=a) (by rw [if_neg (Nat.lt_irrefl k)])]
 congr 1
 refine (row_tx h).trans (tx_congr fun i hi=>?_)
 rw [if_pos hi]
noncomputable def rulP (rs:List Str) (k:Nat) (t:Str):Nat->List Str
 | 0=>[]
 | 1=>rulS rs k t 110
 | _=>rulF rs k t
theorem rulS_len (rs:List Str) (k:Nat) (t:Str) (a:Nat):(rulS rs k t a).length<=1:=by unfold rulS; split <;> simp
theorem rulF_len (rs:List Str) (k:Nat) (t:Str):(rulF rs k t).length<=2:=by
 unfold rulF
 rw [List.length_append]
 have:=rulS_len rs k t 110
 have:=rulS_len rs k t 121
 omega
theorem rulP_len (rs:List Str) (k:Nat) (t:Str) (j:Nat):(rulP rs k t j).length<=2:=by
 match j with
 | 0=>exact Nat.zero_le _
 | 1=>exact Nat.le_trans (rulS_len rs k t 110) (by decide)
 | j + 2=>exact rulF_len rs k t
theorem rf_len {rs:List Str}{k:Nat}:∀ l:List Str,(l.flatMap (rulF rs k)).length<=2 * l.length
 | []=>Nat.le_refl _
 | p :: r=>by
  rw [List.flatMap_cons,List.length_append,List.length_cons]
  have:=rf_len (rs:=rs) (k:=k) r
  have:=rulF_len rs k p
  omega
theorem rul_len (rs:List Str):∀ k,(rul rs k).length<=2 ^ k
 | 0=>Nat.le_refl _
 | k + 1=>by
  have h1:=rf_len (rs:=rs) (k:=k) (rul rs k)
  have h2:=rul_len rs k
  rw [Nat.pow_succ]
  show ((rul rs k).flatMap (rulF rs k)).length<=_
  omega
section
variable {P:Program}{w:World}{K:PySem.W.Frag}{mg:Str->Option Value}{base:Heap}{C fi fa ft fy fm fc:Addr}{gi ga gt gy gm gc:FuncData}{W BC BS fW fC fS:Addr}{gW gC gS:FuncData}
abbrev Nw:List Str:=["_law_asked", "e"]
theorem sc_word:FnScope Nw ["_law_asked"] (defScope s_word):=⟨rfl,rfl,rfl,by decide +kernel,rfl,by decide +kernel,by decide +kernel⟩
theorem ok_word {fw f:Addr}{gw fdl:FuncData}{k:Nat}{spl:Sp}(D:Df K mg "_law_word" s_word ["_law_asked"] fw gw) (T:Xs K mg W BC BS fW fC fS gW gC gS) (ho:base.get? f=some { cls:=.type "function",data:=.func fdl }) (hb:Binds K fdl [] [])
  (G:FnOk P w K mg base (CXE P w) k f fdl [] spl):FnOk P w K mg base (CXE P w) (k + 1) fw gw ["_law_asked"] (spWord K W f spl):=by
 refine D.F.okN sc_word (fun vs H Q E h=>?_) (fun cdv A outer s H vs Q E hr h=>?_)
 ·obtain ⟨rfl,_⟩:=h
  rfl
 ·obtain ⟨rfl,h⟩:=h
  refine ⟨_,pss_one (ps_try (i:=1) (th:=tRet (tTup (tCons (tXGet K (tVar 1) "word") tNil))) (Eh:=wordE K W Q) (W:=W) rfl rfl sc_word.nd rfl rfl (by rfl) T.mW T.kW
   (fun pins Ey hp=>pss_one (ps_ret (pe_tup (pa_cons pe_str (pa_cons (pe_callL (i:=0) G hr ho hb hp rfl (Or.inl rfl)) pa_nil)))))
   (fun ea=>by exact pss_one (ps_ret (pe_tup (pa_cons (pe_xget (pv 1)) pa_nil))))),?_⟩
  refine ⟨⟨rfl,h⟩,fun C dx H0 ea T' H' he sx n0 ex=>?_⟩
  obtain ⟨Ca,dx',ww,e1,e2,e3,xs,xk,kk⟩:=he
  cases e1
  cases e2
  have ne:dx≠ea:=ne_of_none e3 n0
  refine ⟨xs,_,rfl,ea,C,dx,_,_,.str ww,rfl,ex,sx dx _ ne e3,rfl,xk,xk.nw,len_le (show 1<=100 by decide),fun r hr'=>?_⟩
  exact kk H' r (fun b o e=>sx b o (ne_of_none e n0) e) hr'
def spRul (K:PySem.W.Frag):Sp:=fun vs H Q _=>∃(l:Addr) (n:Nat) (rs:List Str),vs=[.ref l,.int n]/\SqL K H l (rs.map V.str)/\(∀ x∈rs,Row n x)/\n<=12/\∀ p H',Same H H'->H' p=some (.lst ((rul rs n).map V.str))->Q (.ref p) H'
abbrev Nru:List Str:=["_law_rows_here", "_law_n", "_law_found", "_law_k", "_law_longer", "_law_text"]
abbrev Pru:List Str:=["_law_rows_here", "_law_n"]
theorem sc_rul:FnScope Nru Pru (defScope s_rul):=⟨rfl,rfl,rfl,by decide +kernel,rfl,by decide +kernel,by decide +kernel⟩
abbrev Nrc:List Str:=["_law_sign", "_law_text", "_law_rows_here"]
theorem nd_rc:Nrc.Nodup:=by decide +kernel
theorem ok_rul {f fg:Addr}{fd gg:FuncData}(D:Df K mg "_law_rulings" s_rul Pru f fd) (Dg:Df K mg "_law_goes_in" s_goes Pgo fg gg) (Gg:FnOk P w K mg base (CXE P w) 2 fg gg Pgo (spGoes K)) (B:Bt mg):FnOk P w K mg base (CXE P w) 3 f fd Pru (spRul K):=by
 refine D.F.okN sc_rul (fun vs H Q E h=>?_) (fun cdv A outer s H vs Q E hr h=>?_)
 ·obtain ⟨l,n,rs,rfl,_⟩:=h
  rfl
 ·obtain ⟨l,n,rs,rfl,hl,hrs,n12,kq⟩:=h
  refine ⟨_,pss_cons (ps_set (i:=2) sc_rul.nd rfl (Or.inl rfl) (pe_lst (pa_cons pe_str pa_nil)))
   (pss_cons (ps_for PassesOwn.never rfl (pi_range1 (by rfl) B.range (pa_cons (pv 1) pa_nil)) (pg_name (i:=3) sc_rul.nd rfl (Or.inl rfl))
    (pss_cons (ps_set (i:=4) sc_rul.nd rfl (Or.inl rfl) (pe_lst pa_nil))
    (pss_cons (ps_for PassesOwn.never rfl (pi_list (pv 2)) (pg_name (i:=5) sc_rul.nd rfl (Or.inr rfl))
     (pss_one (ps_set (i:=4) sc_rul.nd rfl (Or.inl rfl) (pe_op op_cat (pv 4) (pe_comp (N':=Nrc) (fm:=[none,some 5,some 0]) rfl ⟨rfl,by decide +kernel,by decide +kernel,rfl,rfl,rfl⟩
      (pi_str pe_str) (fun _ _ _ _=>pg_name (i:=0) nd_rc rfl (Or.inl rfl)) (fun _ _ _ _=>pif_one (pt_val (pe_fn Dg Gg hr passN (pa_cons (pv 2) (pa_cons (pv 1) (pa_cons (pv 0) pa_nil)))))) (fun _ _ _ _=>pe_op op_add_str (pv 1) (pv 0)))))))
    (pss_one (ps_set (i:=2) sc_rul.nd rfl (Or.inl rfl) (pv 4))))))
   (pss_one (ps_ret (pv 2)))),?_⟩
  refine ⟨len_le (show 1<=100 by decide),fun p0 hp0=>?_⟩
  refine ⟨_,rfl,_,rfl,by omega,by omega,?_⟩
  have en:((n:Nat):Int).toNat=n:=by omega
  rw [en]
  refine for_range (fun k σ H2=>∃(v3 v4 v5:Option V) (p:Addr),σ=[some (.ref l),some (.int n),some (.ref p),v3,v4,v5]/\Same H H2/\H2 p=some (.lst ((rul rs k).map V.str))) ⟨none,none,none,p0,rfl,Same.new hp0,upd_same⟩ ?_ ?_
  ·rintro k σ H2 hk ⟨v3,v4,v5,p,rfl,s2,e2⟩
   rw [Int.zero_add]
   have rl:=Nat.le_trans (rul_len rs k) (pow12 (show k<=12 by omega))
   refine ⟨Nat.zero_le _,fun g0 hg0=>?_⟩
   have s3:=Same.new (o:=.lst []) hg0
   refine ⟨_,rfl,p,rfl,⟨_,SqL.of (s3 _ _ e2)⟩,?_⟩
   refine for_list (K:=K) (a:=p) (xs:=(rul rs k).map V.str) (fun i σ H4=>∃(v5:Option V) (g:Addr),σ=[some (.ref l),some (.int n),some (.ref p),some (.int k),some (.ref g),v5]/\Same H2 H4/\H4 g=some (.lst ((((rul rs k).take i).flatMap (rulF rs k)).map V.str))) ⟨_,g0,rfl,s3,upd_same⟩ (fun i σ H4 _ ⟨_,_,_,s4,_⟩=>SqL.of (s4 _ _ e2)) ?_ ?_
   ·rintro i y σ H4 hi ⟨v5,g,rfl,s4,e4⟩
    rw [List.getElem?_map] at hi
    cases zi:(rul rs k)[i]? with
    | none=>rw [zi] at hi; cases hi
    | some t =>
     rw [zi] at hi
     cases hi
     obtain ⟨rt,_⟩:=rul_mem.mp (List.mem_of_getElem? zi)
     refine ⟨_,rfl,_,rfl,fun pc hpc=>?_⟩
     refine blk_str (x := "ny") (fun c σ H5=>∃ v,σ=[v,some (.str t),some (.ref l)]/\Same H4 H5/\H5 pc=some (.lst ((rulP rs k t c).map V.str))) ⟨none,rfl,Same.new hpc,upd_same⟩ ?_ ?_
     ·rintro c σ H5 hc ⟨v,rfl,s5,e5⟩
      have hc:c < 2:=by rw [show ("ny" : Str).length=2 by decide +kernel] at hc; exact hc
      have P1:rulP rs k t (0 + 1)=rulP rs k t 0 ++ rulS rs k t 110:=rfl
      have P2:rulP rs k t (1 + 1)=rulP rs k t 1 ++ rulS rs k t 121:=rfl
      have tl:t.length + 1<=sizeLine:=by rw [rt.len,sizeLine_eq]; omega
      have hc':c=0∨c=1:=by omega
      rcases hc' with rfl | rfl
      ·refine ⟨_,rfl,_,rfl,_,rfl,l,n,k,rs,t,110,rfl,(s2.trans' (s4.trans' s5)).seq hl,hrs,n12,rt,hk,fun b hb=>⟨_,rfl,?_⟩⟩
       cases b with
       | true =>
        have ef:rulS rs k t 110=[tx (k + 1) (fun i=>if i < k then ch t i else 110)]:=if_pos (hb.mp rfl)
        refine iteT ⟨_,rfl,_,rfl,_,_,rfl,rfl,tl,_,e5,?_,_,rfl,Same.grow hpc s5,?_⟩
        ·rw [List.length_map]
         exact Nat.lt_of_le_of_lt (rulP_len rs k t 0) (by decide)
        ·rw [upd_same,P1,ef,<- tx_app rt.len,List.map_append]
         rfl
       | false =>
        have ef:rulS rs k t 110=[]:=if_neg fun w=>by have:=hb.mpr w; cases this
        refine iteF ⟨_,rfl,s5,?_⟩
        rw [P1,ef,List.append_nil]
        exact e5
      ·refine ⟨_,rfl,_,rfl,_,rfl,l,n,k,rs,t,121,rfl,(s2.trans' (s4.trans' s5)).seq hl,hrs,n12,rt,hk,fun b hb=>⟨_,rfl,?_⟩⟩
       cases b with
       | true =>
        have ef:rulS rs k t 121=[tx (k + 1) (fun i=>if i < k then ch t i else 121)]:=if_pos (hb.mp rfl)
        refine iteT ⟨_,rfl,_,rfl,_,_,rfl,rfl,tl,_,e5,?_,_,rfl,Same.grow hpc s5,?_⟩
        ·rw [List.length_map]
         exact Nat.lt_of_le_of_lt (rulP_len rs k t 1) (by decide)
        ·rw [upd_same,P2,ef,<- tx_app rt.len,List.map_append]
         rfl
       | false =>
        have ef:rulS rs k t 121=[]:=if_neg fun w=>by have:=hb.mpr w; cases this
        refine iteF ⟨_,rfl,s5,?_⟩
        rw [P2,ef,List.append_nil]
        exact e5
     ·rintro σ H5 ⟨v,rfl,s5,e5⟩
      have e:rulP rs k t ("ny" : Str).length=rulF rs k t:=by rw [show ("ny" : Str).length=2 by decide +kernel]; rfl
      rw [e] at e5
      refine ⟨g,pc,_,_,rfl,rfl,s5 _ _ e4,e5,?_,fun g2 hg2=>?_⟩
      ·have h1:=rf_len (rs:=rs) (k:=k) ((rul rs k).take i)
       have h2:=rulF_len rs k t
       rw [List.length_take] at h1
       rw [List.length_map,List.length_map]
       exact Nat.le_trans (show _<=9000 by omega) (by decide)
      ·refine ⟨_,g2,rfl,s4.trans' (s5.trans' (Same.new hg2)),?_⟩
       rw [upd_same,<- List.map_append,List.take_add_one,zi]
       show some (HO.lst _)=some (HO.lst ((((rul rs k).take i ++ [t]).flatMap (rulF rs k)).map V.str))
       rw [List.flatMap_append]
       simp
   ·rintro σ H4 ⟨v5,g,rfl,s4,e4⟩
    rw [List.length_map,List.take_length] at e4
    exact ⟨_,rfl,_,_,_,g,rfl,s2.trans' s4,e4⟩
  ·rintro σ H2 ⟨v3,v4,v5,p,rfl,s2,e2⟩
   exact ⟨_,rfl,kq p H2 s2 e2⟩
end
end K63
namespace K63
open PySem L2
theorem TabOk.ne {H:Hp}{Pt b:Addr}{o:HO}{q:Str}(t:TabOk H Pt q) (e:H b=some o) (n:∀ ps,o≠.tbl ps):b≠Pt:=fun z=>by
 obtain ⟨ps,hp,_⟩:=t.ex
 rw [z,hp] at e; cases e; exact n _ rfl
theorem keepP {H H':Hp}{Pt b:Addr}{o:HO}{q:Str}(t:TabOk H Pt q) (s:SameP Pt H H') (e:H b=some o) (n:∀ ps,o≠.tbl ps):H' b=some o:=s _ _ (TabOk.ne t e n) e
theorem TabOk.other {H H':Hp}{P1 P2:Addr}{q1 q2:Str}(t1:TabOk H P1 q1) (t2:TabOk H P2 q2) (ne:P2≠P1) (s:SameP P1 H H'):TabOk H' P2 q2:=by
 obtain ⟨ps,h1,h2,h3⟩:=t2.ex
 exact ⟨ps,s _ _ ne h1,h2,fun pos cv z=>let ⟨c,e1,e2,e3⟩:=h3 pos cv z; ⟨c,e1,e2,keepP t1 s e3 (fun ps z=>by cases z)⟩⟩
theorem TabAt.monoP {C:Addr}{H H':Hp}{Pt t dx kp bt:Addr}{n m:Nat}{rs:List Str}{q:Str}(T:TabOk H Pt q) (s:SameP Pt H H') (h:TabAt C H t dx kp bt n m rs):TabAt C H' t dx kp bt n m rs:=by
 obtain ⟨i,c,bvs,e1,e2,r⟩:=h
 exact ⟨keepP T s i (fun ps z=>by cases z),c,bvs,keepP T s e1 (fun ps z=>by cases z),keepP T s e2 (fun ps z=>by cases z),r⟩
structure FQ (q:Str) (C Pt:Addr) (H0 H:Hp) (t dx kp bt l kt:Addr) (n m:Nat) (rs:List Str):Prop where
 tb:TabOk H Pt q
 sp:SameP Pt H0 H
 tab:TabAt C H t dx kp bt n m rs
 el:H l=some (.lst (rs.map V.str))
 ek:H kt=some (.lst ((rul rs n).map V.str))
 rows:∀ y∈rs,Row n y
 n1:1<=n
 n12:n<=12
 rl:(rul rs n).length<=4096
theorem FQ.mono {q:Str}{C Pt:Addr}{H0 H H':Hp}{t dx kp bt l kt:Addr}{n m:Nat}{rs:List Str}(h:FQ q C Pt H0 H t dx kp bt l kt n m rs) (s:Same H H'):FQ q C Pt H0 H' t dx kp bt l kt n m rs :=
 ⟨h.tb.same s,h.sp.trans (fun b o _ e=>s b o e),h.tab.mono s,s _ _ h.el,s _ _ h.ek,h.rows,h.n1,h.n12,h.rl⟩
theorem FQ.monoP {q:Str}{C Pt:Addr}{H0 H H':Hp}{t dx kp bt l kt:Addr}{n m:Nat}{rs:List Str}(h:FQ q C Pt H0 H t dx kp bt l kt n m rs) (T:TabOk H' Pt q) (s:SameP Pt H H'):FQ q C Pt H0 H' t dx kp bt l kt n m rs :=
 ⟨T,h.sp.trans s,TabAt.monoP h.tb s h.tab,keepP h.tb s h.el (fun ps z=>by cases z),keepP h.tb s h.ek (fun ps z=>by cases z),h.rows,h.n1,h.n12,h.rl⟩
theorem mat_mB (x z:Str) (n:Nat):matA (ch z) (ch x) n=mB x n z:=by
 unfold matA mB
 rw [List.all_map]
 rfl
theorem good_blk {K:PySem.W.Frag}{kt p:Addr}{ks:List Str}{x:Str}{n:Nat}{rest:St}{H:Hp}{tt:TT}{te:TE}{Q:Hp->Prop}(hk:H kt=some (.lst (ks.map V.str))) (hr:∀ z∈ks,Row n z) (hl:ks.length<=4096) (np:H p=none)
  (hT:∀(z:Str) (H':Hp) (R:Bool->Hp->Prop),Same H H'->Row n z->(∀ H'',Same H' H''->R (mB x n z) H'')->tt (some (.str z) :: rest) H' R) (hE:∀(z:Str) (H':Hp) (R:VK),R (.str z) H'->te (some (.str z) :: rest) H' R)
  (h:∀ H',Same H H'->H' p=some (.lst ((ks.filter (mB x n)).map V.str))->Q H'):tBlk (Itl K kt) p (gName 0) tt te (none :: rest) (upd H p (.lst [])) Q:=by
 refine blk_list (K:=K) (a:=kt) (xs:=ks.map V.str) (fun j σ H4=>∃ v,σ=v :: rest/\Same H H4/\H4 p=some (.lst (((ks.take j).filter (mB x n)).map V.str))) ⟨none,rfl,Same.new np,upd_same⟩ (fun i σ H4 _ ⟨_,_,s4,_⟩=>SqL.of (s4 _ _ hk)) ?_ ?_
 ·rintro j v σ H4 hj ⟨u,rfl,s4,e4⟩
  rw [List.getElem?_map] at hj
  cases zz:ks[j]? with
  | none=>rw [zz] at hj; cases hj
  | some z =>
  rw [zz] at hj
  cases hj
  have jl:=(List.getElem?_eq_some_iff.mp zz).1
  have sn:(ks.take (j + 1)).filter (mB x n)=(ks.take j).filter (mB x n) ++ [z].filter (mB x n):=by
   rw [List.take_add_one,zz,List.filter_append]; rfl
  refine hT z H4 _ s4 (hr z (List.mem_of_getElem? zz)) fun H5 s5=>?_
  by_cases c:mB x n z=true
  ·rw [c]
   refine iteT (hE z H5 _ ⟨_,s5 _ _ e4,?_,_,rfl,Same.grow np (s4.trans' s5),?_⟩)
   ·rw [List.length_map]
    exact Nat.lt_of_le_of_lt (Nat.le_trans (List.length_filter_le _ _) (Nat.le_trans (List.length_take_le _ _) (show j<=4096 by omega))) (by decide)
   ·rw [upd_same,sn,show [z].filter (mB x n)=[z] from List.filter_cons_of_pos c,List.map_append]; rfl
  ·rw [Bool.eq_false_iff.mpr c]
   refine iteF ⟨_,rfl,s4.trans' s5,?_⟩
   rw [sn,show [z].filter (mB x n)=[] from List.filter_cons_of_neg c,List.append_nil]
   exact s5 _ _ e4
 ·rintro σ H4 ⟨u,rfl,s4,e4⟩
  rw [List.length_map,List.take_of_length_le (Nat.le_refl _)] at e4
  exact h H4 s4 e4
theorem bools_blk {K:PySem.W.Frag}{a p:Addr}{xs:List V}{f:Nat->Bool}{rest:St}{H:Hp}{te:TE}{Q:Hp->Prop}(ha:H a=some (.lst xs)) (hl:xs.length<=5000) (np:H p=none)
  (hE:∀(i:Nat) (x:V) (H':Hp) (R:VK),xs[i]? = some x->Same H H'->(∀ H'',Same H' H''->R (.bl (f i)) H'')->te (some x :: rest) H' R)
  (h:∀ H',Same H H'->H' p=some (.lst ((List.range xs.length).map fun i=>V.bl (f i)))->Q H'):tBlk (Itl K a) p (gName 0) tAll te (none :: rest) (upd H p (.lst [])) Q:=by
 refine blk_list (K:=K) (a:=a) (xs:=xs) (fun j σ H4=>∃ v,σ=v :: rest/\Same H H4/\H4 p=some (.lst ((List.range j).map fun i=>V.bl (f i)))) ⟨none,rfl,Same.new np,upd_same⟩ (fun i σ H4 _ ⟨_,_,s4,_⟩=>SqL.of (s4 _ _ ha)) ?_ ?_
 ·rintro j x σ H4 hj ⟨u,rfl,s4,e4⟩
  have jl:=(List.getElem?_eq_some_iff.mp hj).1
  refine turn_all (hE j x H4 _ hj s4 fun H5 s5=>⟨_,s5 _ _ e4,?_,_,rfl,Same.grow np (s4.trans' s5),?_⟩)
  ·rw [List.length_map,List.length_range]
   exact Nat.lt_of_le_of_lt (show j<=5000 by omega) (by decide)
  ·rw [upd_same,<- map_snoc]
 ·rintro σ H4 ⟨u,rfl,s4,e4⟩
  exact h H4 s4 e4
theorem any_rng {n:Nat}{f:Nat->Bool}{i:Nat}(h:i < n) (hf:f i=true):(((List.range n).map f).any id)=true:=by
 rw [List.any_map,List.any_eq_true]
 exact ⟨i,List.mem_range.mpr h,hf⟩
theorem row_tx' {n:Nat}{z:Str}(h:z.length=n):z=tx n (ch z):=by
 rw [<- h]
 exact all_tx z
end K63
namespace K63
open PySem L2
open PyProof.Rows (envOfC)
abbrev s_lfilled:Stmt:=top 67
def qF:Str := "_law_filled" ++ ".<locals>." ++ "<lambda>"
structure Bx (mg:Str->Option Value):Prop where
 any:mg "any" = none
def Good (H:Hp) (p:Addr) (rs:List Str) (n:Nat) (x:Str):Prop :=
 (∃ z,H p=some (.tup [.str "row",.str z])/\Row n z/\Borne rs n z/\∀ i,i < n->¬ ch x i=45->ch z i=ch x i)∨(∃ q r:Nat,H p=some (.tup [.str "nobody",.int q,.int r])/\Nobody rs n x q r)
theorem Good.mono {H H':Hp}{p:Addr}{rs:List Str}{n:Nat}{x:Str}(h:Good H p rs n x) (s:Same H H'):Good H' p rs n x:=by
 rcases h with ⟨z,e,r⟩ | ⟨q,r,e,b⟩
 ·exact .inl ⟨z,s _ _ e,r⟩
 ·exact .inr ⟨q,r,s _ _ e,b⟩
def FndF (H:Hp) (r:Addr) (rs:List Str) (n:Nat) (x:Str):Prop:=(rs=[]/\H r=some (.tup [.str "empty"]))∨(rs≠[]/\∃ p,H r=some (.tup [.str "told",.ref p])/\Good H p rs n x)
theorem FndF.mono {H H':Hp}{r:Addr}{rs:List Str}{n:Nat}{x:Str}(h:FndF H r rs n x) (s:Same H H'):FndF H' r rs n x:=by
 rcases h with ⟨e,h⟩ | ⟨e,p,h,g⟩
 ·exact .inl ⟨e,s _ _ h⟩
 ·exact .inr ⟨e,p,s _ _ h,g.mono s⟩
theorem den_w {K:PySem.W.Frag}{H:Hp}{p:Addr}{a:Str}(h:H p=some (.tup [.str a])):Den K H (.ref p) (.tup [.str a]):=by
 refine .tup (.inl (.inl h)) rfl (show 1<=5000 by decide) fun i u v hu hv=>?_
 match i,hu,hv with
 | 0,hu,hv=>cases hu; cases hv; exact .str a
 | _ + 1,hu,_=>cases hu
theorem eqb_w (a:Str):(Dt.tup [.str a]).eqb (.tup [.str a])=true:=by
 show (decide (a=a) && true)=true
 rw [decide_eq_true rfl]; rfl
theorem den_rs {K:PySem.W.Frag}{H:Hp}{p:Addr}{a b:Str}(h:H p=some (.tup [.str a,.str b])):Den K H (.ref p) (.tup [.str a,.str b]):=by
 refine .tup (.inl (.inl h)) rfl (show 2<=5000 by decide) fun i u v hu hv=>?_
 match i,hu,hv with
 | 0,hu,hv=>cases hu; cases hv; exact .str a
 | 1,hu,hv=>cases hu; cases hv; exact .str b
 | _ + 2,hu,_=>cases hu
theorem eqb_rs (a b c:Str):(Dt.tup [.str a,.str b]).eqb (.tup [.str a,.str c])=decide (b=c):=by
 show (decide (a=a) && (decide (b=c) && true))=_
 rw [decide_eq_true rfl,Bool.and_true,Bool.true_and]
theorem den_nq {K:PySem.W.Frag}{H:Hp}{p:Addr}{a:Str}{q r:Nat}(h:H p=some (.tup [.str a,.int q,.int r])):Den K H (.ref p) (.tup [.str a,.int q,.int r]):=by
 refine .tup (.inl (.inl h)) rfl (show 3<=5000 by decide) fun i u v hu hv=>?_
 match i,hu,hv with
 | 0,hu,hv=>cases hu; cases hv; exact .str a
 | 1,hu,hv=>cases hu; cases hv; exact .int _
 | 2,hu,hv=>cases hu; cases hv; exact .int _
 | _ + 3,hu,_=>cases hu
theorem eqb_nq (a:Str) (q r q' r':Nat):(Dt.tup [.str a,.int q,.int r]).eqb (.tup [.str a,.int q',.int r'])=decide ((q,r)=(q',r')):=by
 show (decide (a=a) && (((q:Int) == (q':Int)) && (((r:Int) == (r':Int)) && true)))=_
 rw [decide_eq_true rfl,Bool.and_true,Bool.true_and,Bool.eq_iff_iff]
 simp
 omega
theorem mat_good {rs:List Str}{n:Nat}{x z:Str}(rz:Row n z) (bz:Borne rs n z) (mz:∀ i,i < n->¬ ch x i=45->ch z i=ch x i):z∈(rul rs n).filter (mB x n) :=
 List.mem_filter.mpr ⟨rul_mem.mpr ⟨rz,bz⟩,(mB_iff z).mpr fun i hi=>(Classical.em (ch x i=45)).elim .inl fun h=>.inr (mz i hi h).symm⟩
theorem no_good {rs:List Str}{n:Nat}{x y:Str}{q r:Nat}(nb:Nobody rs n x q r) (hy:y∈(rul rs n).filter (mB x n)):False:=by
 obtain ⟨h1,h2⟩:=List.mem_filter.mp hy
 obtain ⟨_,b⟩:=rul_mem.mp h1
 obtain ⟨_,qn,rn,qc,rc,z⟩:=nb
 have m:=(mB_iff y).mp h2
 have e1:=(m q qn).resolve_left qc
 have e2:=(m r rn).resolve_left rc
 have:=b q r qn rn
 rw [<- e1,<- e2] at this
 omega
def MF (C Pt:Addr) (H0:Hp) (t dx kp bt l kt:Addr) (n m:Nat) (rs:List Str) (x:Str):St->Hp->Prop:=fun σ H=>∃ r,σ=[some (.ref t),some (.ref l),some (.ref kt),some (.str x),some (.ref r),none,none]/\FQ qF C Pt H0 H t dx kp bt l kt n m rs/\FndF H r rs n x
section
variable {P:Program}{w:World}{K:PySem.W.Frag}{mg:Str->Option Value}{base:Heap}{C fi fa ft fy fm fc:Addr}{gi ga gt gy gm gc:FuncData}{W BC BS fW fC fS:Addr}{gW gC gS:FuncData}
abbrev N_lf:List Str:=["_law_made", "_law_rows_here", "_law_kept", "_law_pattern_here", "_law_found", "_law_good", "_law_gone"]
abbrev P_lf:List Str:=["_law_made", "_law_rows_here", "_law_kept", "_law_pattern_here"]
theorem sc_lf:FnScope N_lf P_lf (defScope s_lfilled):=⟨rfl,rfl,rfl,by decide +kernel,rfl,by decide +kernel,by decide +kernel⟩
abbrev N_lf1:List Str:=["_law_row", "_law_pattern_here"]
theorem nd_lf1:N_lf1.Nodup:=by decide +kernel
abbrev N_lf2:List Str:=["_law_row", "_law_found"]
theorem nd_lf2:N_lf2.Nodup:=by decide +kernel
abbrev N_lf3:List Str:=["_law_pair"]
theorem nd_lf3:N_lf3.Nodup:=by decide +kernel
abbrev N_lf4:List Str:=["_law_one", "_law_found"]
theorem nd_lf4:N_lf4.Nodup:=by decide +kernel
abbrev XF (P:Program) (w:World) (K:PySem.W.Frag) (mg:Str->Option Value) (base:Heap) (f:Addr) (cc:Addr) (A:Around) (outer:List Env) (s:Shared) (H:Hp) (E:XK):Cx :=
 (cxOf (CXE P w) P w K mg base N_lf "_law_filled" (defScope s_lfilled) f (.ref cc) A outer s H E).nox
variable {f cc Pt:Addr}
def spLfilled (C Pt:Addr):Sp:=fun vs H Q _=>∃(t dx kp bt l kt:Addr) (n m:Nat) (rs:List Str) (x:Str),vs=[.ref t,.ref l,.ref kt,.str x]/\FQ qF C Pt H H t dx kp bt l kt n m rs/\Pat n x/\∀ H',TabOk H' Pt qF->SameP Pt H H'->Q (.bl true) H'
theorem ok_lfilled {oc kV doc pm ct:Value}{od an:Option Addr}{osl:Array (Option Value)}{fw fe fn fh fq fl:Addr}{gw ge gn gh gq gl:FuncData}
  (lk:K.lookup f=some ⟨oc,od,.func (PySem.W.fnOf "_law_filled" "_law_filled" (defArgs s_lfilled) (defBody s_lfilled) (defScope s_lfilled) .none kV doc pm an (.ref cc) ct),osl⟩) (hcd:PySem.W.codeIn K (.ref cc) "_law_filled" = true)
  (Dw:Df K mg "_law_word" s_word ["_law_asked"] fw gw) (De:Df K mg "_law_same" s_same Ps fe ge) (Dn:Df K mg "filled" s_filled Pgp fn gn) (Gn:∀ base,FnOk P w K mg base (CXE P w) 6 fn gn Pgp (spFilled C BC BS)) (Dh:Df K mg "matching" s_matching Pgp fh gh) (Gh:FnOk P w K mg base (CXE P w) 6 fh gh Pgp (spMatch C BC))
  (Dq:Df K mg "_law_matches" s_lmat Pl fq gq) (Gq:FnOk P w K mg base (CXE P w) 1 fq gq Pl spMat) (Dl:Df K mg "_law_gaps" s_lgaps P_lg fl gl) (Gl:FnOk P w K mg base (CXE P w) 2 fl gl P_lg (spLgaps K)) (X:Xs K mg W BC BS fW fC fS gW gC gS) (B:Bt mg) (Y:Bx mg) (Cd:PySem.W.CodeHd base cc Pt) (BM:BMain mg base) :
  FnOk P w K mg base (CXE P w) 9 f (PySem.W.fnOf "_law_filled" "_law_filled" (defArgs s_lfilled) (defBody s_lfilled) (defScope s_lfilled) .none kV doc pm an (.ref cc) ct) P_lf (spLfilled C Pt):=by
 refine fn_of lk hcd sc_lf (fun vs H Q E h=>?_) fun A outer s H vs Q E hr h=>?_
 ·obtain ⟨t,dx,kp,bt,l,kt,n,m,rs,x,rfl,_⟩:=h
  rfl
 obtain ⟨t,dx,kp,bt,l,kt,n,m,rs,x,rfl,F0,hp,k⟩:=h
 suffices hsuff:∃ t',PSs (XF P w K mg base f cc A outer s H E) (defBody s_lfilled) t'/\t' { nx:=fun _ H'=>Q .non H',rt:=Q } (start N_lf [.ref t,.ref l,.ref kt,.str x]) H by
  obtain ⟨t,h1,h2⟩:=hsuff
  exact ⟨t,h1.nox,h2⟩
 have hu:(XF P w K mg base f cc A outer s H E).A.units < cLine:=hr.units0
 refine ⟨_,pss_cons (ps_cut (MF C Pt H t dx kp bt l kt n m rs x) (ps_set (i:=4) sc_lf.nd rfl (Or.inr rfl) (pe_word (W:=W) (P:=Pt) (c:=cc) (kl:=6) (kw:=8) (N:=["_law_made", "_law_pattern_here"]) (fm:=[0,3]) (t:=fun E=>tCall (spFilled C BC BS) [] E (tCons (tVar 0) (tCons (tVar 1) tNil))) Dw (fun base f fdl spl ho hb G=>ok_word Dw X ho hb G) (hr.mono (by decide)) rfl Cd BM (fun _=>rfl) (by exact ⟨rfl,rfl,rfl,by decide +kernel⟩) (by exact (show ∀ y:Str×NameKind,y∈_->y.2=NameKind.free->(defScope s_lfilled).names.lookup y.1=some NameKind.cell by decide +kernel)) rfl (by intro i x h; match i,h with | 0,h=>cases h; exact ⟨rfl,0,rfl,rfl⟩ | 1,h=>cases h; exact ⟨rfl,3,rfl,rfl⟩ | _ + 2,h=>cases h) (by intro base f c' A outer s H E hr; exact pe_fn Dn (Gn base) hr passL (pa_cons (pv 0) (pa_cons (pv 1) pa_nil))) passN)))
   (pss_cons (ps_comp (i:=5) (N':=N_lf1) (fm:=[none,some 3]) rfl sc_lf.nd rfl rfl ⟨rfl,by decide +kernel,by decide +kernel,rfl,rfl,rfl⟩ (pi_list (pv 2)) (fun _ _ _ _=>(pg_name (i:=0) nd_lf1 rfl (Or.inl rfl))) (fun _ _ _ _=>(pif_one (pt_val (pe_fn Dq Gq (hr.mono (by decide)) passN (pa_cons (pv 0) (pa_cons (pv 1) pa_nil)))))) (fun _ _ _ _=>(pv 0)))
   (pss_cons (ps_if (pt_not (pt_val (pe_fn De (ok_same De B 3) (hr.mono (by decide)) passN (pa_cons (pe_fn Dh Gh (hr.mono (by decide)) passN (pa_cons (pv 0) (pa_cons (pv 3) pa_nil))) (pa_cons (pv 5) pa_nil))))) (pss_one (ps_ret pe_bl)) pss_nil)
   (pss_cons (ps_if (pt_cmpR (op_eqNil hu) (pv 1) (pe_lst pa_nil) (nomark _)) (pss_one (ps_ret (pe_fn De (ok_same De B 3) (hr.mono (by decide)) passN (pa_cons (pv 4) (pa_cons (pe_tup (pa_cons pe_str pa_nil)) pa_nil))))) pss_nil)
   (pss_cons (ps_if (PW.pt (pw_or (pt_cmpR op_ne (pe_ix ix_tup (pv 4) pe_int (fun _ _=>rfl)) pe_str (nomark _)) (pw_or1 (pt_not (pt_val (pe_callB call_isi (by rfl) B.isi (by rfl) (pa_cons (pe_ix ix_tup (pv 4) pe_int (fun _ _=>rfl)) (pa_cons (pe_bltn (by rfl) B.tuple (v:=.ty "tuple") (u:=.type "tuple") (by rfl) rfl) pa_nil)))))))) (pss_one (ps_ret pe_bl)) pss_nil)
   (pss_cons (ps_if (pt_cmpR (op_neNil hu) (pv 5) (pe_lst pa_nil) (nomark _)) (pss_one (ps_ret (pe_callB (call_any rfl) (by rfl) Y.any (by rfl) (pa_cons (pe_comp (N':=N_lf2) (fm:=[none,some 4]) rfl ⟨rfl,by decide +kernel,by decide +kernel,rfl,rfl,rfl⟩ (pi_list (pv 5)) (fun _ _ _ _=>(pg_name (i:=0) nd_lf2 rfl (Or.inl rfl))) (fun _ _ _ _=>pif_nil) (fun _ _ _ _=>(pe_fn De (ok_same De B 3) (hr.mono (by decide)) passN (pa_cons (pe_ix (r:=rIxT K) ix_tup (pv 1) pe_int (fun _ _=>rfl)) (pa_cons (pe_tup (pa_cons pe_str (pa_cons (pv 0) pa_nil))) pa_nil))))) pa_nil)))) pss_nil)
   (pss_cons (ps_comp (i:=6) (N':=N_lf3) (fm:=[none]) rfl sc_lf.nd rfl rfl ⟨rfl,by decide +kernel,by decide +kernel,rfl,rfl,rfl⟩ (pi_list (pe_fn Dl Gl (hr.mono (by decide)) passN (pa_cons (pv 1) (pa_cons (pv 3) pa_nil)))) (fun _ _ _ _=>(pg_name (i:=0) nd_lf3 rfl (Or.inl rfl))) (fun _ _ _ _=>pif_nil) (fun _ _ _ _=>(pe_op (r:=rCatT K) op_catT (pe_tup (pa_cons pe_str pa_nil)) (pv 0))))
   (pss_one (ps_ret (pe_callB (call_any rfl) (by rfl) Y.any (by rfl) (pa_cons (pe_comp (N':=N_lf4) (fm:=[none,some 4]) rfl ⟨rfl,by decide +kernel,by decide +kernel,rfl,rfl,rfl⟩ (pi_list (pv 6)) (fun _ _ _ _=>(pg_name (i:=0) nd_lf4 rfl (Or.inl rfl))) (fun _ _ _ _=>pif_nil) (fun _ _ _ _=>(pe_fn De (ok_same De B 3) (hr.mono (by decide)) passN (pa_cons (pe_ix (r:=rIxT K) ix_tup (pv 1) pe_int (fun _ _=>rfl)) (pa_cons (pv 0) pa_nil))))) pa_nil)))))))))),?_⟩
 have lx:x.length<=100:=by rw [hp.len]; have:=F0.n12; omega
 refine ⟨?_,?_⟩
 ·refine ⟨F0.tb,fun H1 T1 sp1=>?_⟩
  have F1:=F0.monoP T1 sp1
  refine ⟨_,rfl,_,rfl,t,dx,kp,bt,n,m,rs,x,rfl,F1.tab,lx,F1.n1,F1.n12,F1.rows,fun z=>absurd hp z,fun _ re dx' H2 s2 ex=>?_,fun _ rne=>⟨fun z p H2 rz bz mz s2 ep=>toldQ.mk fun r nr=>?_,fun q r p H2 nb s2 ep=>toldQ.mk fun rr nr=>?_⟩⟩
  ·refine ⟨BS,dx',_,rfl,rfl,ex,X.sS,X.kS,fun H3 r s3 nr=>?_⟩
   exact ⟨r,rfl,F1.mono (s2.trans' (s3.trans' (Same.new nr))),.inl ⟨re,upd_same⟩⟩
  ·exact ⟨r,rfl,F1.mono (s2.trans' (Same.new nr)),.inr ⟨rne,p,upd_same,.inl ⟨z,Same.new nr _ _ ep,rz,bz,mz⟩⟩⟩
  ·exact ⟨rr,rfl,F1.mono (s2.trans' (Same.new nr)),.inr ⟨rne,p,upd_same,.inr ⟨q,r,Same.new nr _ _ ep,nb⟩⟩⟩
 ·rintro σ' H1 ⟨r,rfl,F1,fd⟩
  have n12:=F1.n12
  have rr:∀ z∈rul rs n,Row n z:=fun z hz=>(rul_mem.mp hz).1
  refine ⟨_,rfl,kt,rfl,⟨_,SqL.of F1.ek⟩,fun g ng=>good_blk (x:=x) F1.ek rr F1.rl ng (fun z H' R _ rz r=>⟨_,rfl,_,rfl,ch z,ch x,n,?_,by omega,fun H'' s''=>⟨_,rfl,?_⟩⟩) (fun z H' R q=>⟨_,rfl,q⟩) fun H2 s2 e2=>?_⟩
  ·show [V.str z,V.str x]=[V.str (tx n (ch z)),V.str (tx n (ch x))]
   rw [<- row_tx' rz.len,<- row_tx' hp.len]
  ·show R (matA (ch z) (ch x) n) H''
   rw [mat_mB]
   exact r H'' s''
  have F2:=F1.mono s2
  have fd2:=fd.mono s2
  have lg:((rul rs n).filter (mB x n)).length<=4096:=Nat.le_trans (List.length_filter_le _ _) F1.rl
  refine ⟨_,rfl,_,rfl,t,dx,kp,bt,n,m,rs,x,rfl,F2.tab,lx,F2.n1,F2.n12,fun z=>absurd hp z,fun _ p2 H3 np2 s3 e3 l3=>⟨_,rfl,.ref p2,.ref g,_,_,rfl,den_strs e3 (by omega),den_strs (s3 _ _ e2) (by omega),Nat.le_trans (deep_strs _) (by decide),fun H4 s4=>?_⟩⟩
  rw [show (Dt.lst ((mL rs x n).map Dt.str)).eqb (.lst (((rul rs n).filter (mB x n)).map Dt.str))=true from eqb_strs _]
  have s24:=s3.trans' s4
  have F4:=F2.mono s24
  have fd4:=fd2.mono s24
  have e4:=s24 _ _ e2
  refine ⟨_,rfl,iteF ⟨_,rfl,Nat.zero_le _,fun pe hpe=>?_⟩⟩
  have se:=Same.new (o:=.lst []) hpe
  have F5:=F4.mono se
  have fd5:=fd4.mono se
  refine ⟨l,pe,_,rfl,rfl,SqL.of F5.el,SqL.of upd_same,_,rfl,ite2 (fun c=>?_) (fun c=>?_)⟩
  ·-- no rows
   rcases fd5 with ⟨re,er⟩ | ⟨rne,_⟩
   ·refine ⟨_,rfl,len_le (show 1<=100 by decide),fun T nT=>?_⟩
    have sT:=Same.new (o:=.tup [.str "empty"]) nT
    refine ⟨.ref r,.ref T,_,_,rfl,den_w (sT _ _ er),den_w upd_same,by decide,fun H6 s6=>?_⟩
    rw [eqb_w]
    have F6:=(F5.mono sT).mono s6
    exact k H6 F6.tb F6.sp
   ·exfalso
    cases rs with
    | nil=>exact rne rfl
    | cons a b=>cases c
  have rne:rs≠[]:=fun z=>c (by rw [z]; rfl)
  rcases fd5 with ⟨re,_⟩ | ⟨_,p,er,gd⟩
  ·exact absurd re rne
  have tup:∃ xs,SqT K (upd H4 pe (.lst [])) p xs:=by
   rcases gd with ⟨z,e,_⟩ | ⟨q,r',e,_⟩
   ·exact ⟨_,SqT.of e⟩
   ·exact ⟨_,SqT.of e⟩
  refine ⟨_,rfl,r,_,_,_,rfl,rfl,SqT.of er,(show _=some (V.str "told") from rfl),rfl,_,rfl,?_⟩
  show if (!decide (V.str ("told" : Str)=V.str ("told" : Str)))=true then _ else _
  rw [decide_eq_true rfl]
  refine iteF ⟨_,rfl,r,_,_,_,rfl,rfl,SqT.of er,(show _=some (V.ref p) from rfl),_,.tup, "tuple",true,rfl,tup,rfl,_,rfl,iteF ?_⟩
  refine ⟨_,rfl,Nat.zero_le _,fun pe2 hpe2=>?_⟩
  have se2:=Same.new (o:=.lst []) hpe2
  have F6:=F5.mono se2
  have gd6:=gd.mono se2
  have er6:=se2 _ _ er
  have e6:=se2 _ _ (se _ _ e4)
  have ep2:(upd (upd H4 pe (.lst [])) pe2 (.lst [])) pe2=some (.lst []):=upd_same
  generalize upd (upd H4 pe (.lst [])) pe2 (.lst [])=H6 at *
  refine ⟨g,pe2,_,rfl,rfl,SqL.of e6,SqL.of ep2,_,rfl,ite2 (fun c3=>?_) (fun c3=>?_)⟩
  ·-- some ruling matches
   rcases gd6 with ⟨z,ez,rz,bz,mz⟩ | ⟨q,r',ez,nb⟩
   ·obtain ⟨i0,hi0⟩:=List.getElem?_of_mem (mat_good rz bz mz)
    refine ⟨_,rfl,g,rfl,⟨_,SqL.of e6⟩,fun b nb=>bools_blk (f:=fun i=>decide (some z=((rul rs n).filter (mB x n))[i]?)) e6 (by rw [List.length_map]; omega) nb (fun i v H' R hi s' rr'=>?_) fun H7 s7 e7=>?_⟩
    ·rw [List.getElem?_map] at hi
     cases zz:((rul rs n).filter (mB x n))[i]? with
     | none=>rw [zz] at hi; cases hi
     | some y =>
     rw [zz] at hi
     cases hi
     refine ⟨_,rfl,r,_,_,_,rfl,rfl,SqT.of (s' _ _ er6),(show _=some (V.ref p) from rfl),_,rfl,len_le (show 2<=100 by decide),fun T nT=>?_⟩
     have sT:=Same.new (o:=.tup [.str "row",.str y]) nT
     refine ⟨.ref p,.ref T,_,_,rfl,den_rs (sT _ _ (s' _ _ ez)),den_rs upd_same,by show 1<=2; decide,fun H'' s''=>?_⟩
     rw [eqb_rs]
     have q:=rr' H'' (sT.trans' s'')
     have e:decide (some z=((rul rs n).filter (mB x n))[i]?)=decide (z=y):=by rw [zz]; simp
     have q:R (.bl (decide (some z=((rul rs n).filter (mB x n))[i]?))) H'':=q
     rw [e] at q
     exact q
    ·rw [map_bl] at e7
     refine ⟨b,_,rfl,SqL.of e7,?_⟩
     rw [any_rng (i:=i0) (by rw [List.length_map]; exact (List.getElem?_eq_some_iff.mp hi0).1) (by rw [hi0]; simp)]
     have F7:=F6.mono s7
     exact k H7 F7.tb F7.sp
   ·exfalso
    cases hg:(rul rs n).filter (mB x n) with
    | nil=>rw [hg] at c3; cases c3
    | cons y ys=>exact no_good nb (by rw [hg]; exact List.mem_cons_self)
  ·-- none does
   rcases gd6 with ⟨z,ez,rz,bz,mz⟩ | ⟨q,r',ez,nb⟩
   ·exfalso
    have:=mat_good rz bz mz
    cases hg:(rul rs n).filter (mB x n) with
    | nil=>rw [hg] at this; cases this
    | cons y ys=>rw [hg] at c3; exact c3 rfl
   ·refine ⟨_,rfl,_,rfl,l,n,rs,x,rfl,SqL.of F6.el,F6.rows,hp,n12,fun gp H7 ps s7 prs lps mem=>?_⟩
    obtain ⟨as,eas,las,has⟩:=prs
    refine ⟨gp,rfl,⟨_,SqL.of eas⟩,fun o no=>?_⟩
    refine blk_list (K:=K) (a:=gp) (xs:=as.map V.ref) (fun j σ H8=>∃ v ts,σ=[v]/\Same H7 H8/\H8 o=some (.lst (ts.map V.ref))/\ts.length=j/\∀(i:Nat) (a:Addr) (z:Nat×Nat),ts[i]? = some a->ps[i]? = some z->H8 a=some (.tup [.str "nobody",.int z.1,.int z.2])) ⟨none,[],rfl,Same.new no,upd_same,rfl,fun i a z h=>by simp at h⟩ (fun i σ H8 _ ⟨_,_,_,s8,_⟩=>SqL.of (s8 _ _ eas)) ?_ ?_
    ·rintro j v σ H8 hj ⟨u,ts,rfl,s8,e8,lts,hts⟩
     rw [List.getElem?_map] at hj
     cases za:as[j]? with
     | none=>rw [za] at hj; cases hj
     | some a =>
     rw [za] at hj
     cases hj
     have jl:=(List.getElem?_eq_some_iff.mp za).1
     have zp:ps[j]? = some (ps[j]'(by omega)):=List.getElem?_eq_getElem (by omega)
     generalize ps[j]'(by omega)=z at zp
     have ea:=s8 _ _ (has j a z za zp)
     refine turn_all ⟨len_le (show 1<=100 by decide),fun T1 n1=>⟨_,rfl,T1,a,_,_,rfl,rfl,SqT.of upd_same,SqT.of (Same.new n1 _ _ ea),by simp,len_le (show 3<=100 by decide),fun w=>by simp at w,fun _ T2 n2=>?_⟩⟩
     have s1:=Same.new (o:=.tup [.str "nobody"]) n1
     have s2':=Same.new (o:=.tup ([.str "nobody"] ++ [.int z.1,.int z.2])) n2
     have s12:=s1.trans' s2'
     have eo:=s12 _ _ e8
     refine ⟨_,eo,?_,_,ts ++ [T2],rfl,Same.grow no (s8.trans' s12),by rw [upd_same,List.map_append]; rfl,by rw [List.length_append,lts]; rfl,fun i a' z' h1 h2=>?_⟩
     ·rw [List.length_map]; exact Nat.lt_of_le_of_lt (show ts.length<=1000 by omega) (by decide)
     have ne:∀ b w,(upd (upd H8 T1 (.tup [.str "nobody"])) T2 (.tup ([.str "nobody"] ++ [.int z.1,.int z.2]))) b=some (.tup w)->b≠o:=fun b w e' y=>by rw [y,eo] at e'; cases e'
     by_cases c:i < ts.length
     ·rw [List.getElem?_append_left c] at h1
      have:=s12 _ _ (hts i a' z' h1 h2)
      rw [upd_ne (ne _ _ this)]
      exact this
     ·have ei:i=ts.length:=by
       have:=(List.getElem?_eq_some_iff.mp h1).1
       rw [List.length_append] at this
       have:i < ts.length + 1:=this
       omega
      rw [List.getElem?_append_right (by omega),show i - ts.length=0 by omega] at h1
      cases h1
      rw [ei,lts,zp] at h2
      cases h2
      rw [upd_ne (ne _ _ upd_same)]
      exact upd_same
    ·rintro σ H8 ⟨u,ts,rfl,s8,e8,lts,hts⟩
     rw [List.length_map] at lts
     have s78:=s7.trans' s8
     obtain ⟨i0,hi0⟩:=List.getElem?_of_mem (mem q r' nb)
     have i0l:=(List.getElem?_eq_some_iff.mp hi0).1
     refine ⟨_,rfl,o,rfl,⟨_,SqL.of e8⟩,fun b nb'=>bools_blk (f:=fun i=>decide (some (q,r')=ps[i]?)) e8 (by rw [List.length_map]; omega) nb' (fun i v H' R hi s' rr'=>?_) fun H9 s9 e9=>?_⟩
     ·rw [List.getElem?_map] at hi
      cases zt:ts[i]? with
      | none=>rw [zt] at hi; cases hi
      | some a =>
      rw [zt] at hi
      cases hi
      have il:=(List.getElem?_eq_some_iff.mp zt).1
      have zp:ps[i]? = some (ps[i]'(by omega)):=List.getElem?_eq_getElem (by omega)
      generalize ps[i]'(by omega)=z at zp
      obtain ⟨zq,zr⟩:=z
      refine ⟨_,rfl,r,_,_,_,rfl,rfl,SqT.of (s' _ _ (s78 _ _ er6)),(show _=some (V.ref p) from rfl),_,rfl,.ref p,.ref a,_,_,rfl,den_nq (s' _ _ (s78 _ _ ez)),den_nq (s' _ _ (hts i a _ zt zp)),by show 1<=2; decide,fun H'' s''=>?_⟩
      rw [eqb_nq]
      have q1:R (.bl (decide (some (q,r')=ps[i]?))) H'':=rr' H'' s''
      rw [zp] at q1
      have e:decide (some (q,r')=some (zq,zr))=decide ((q,r')=(zq,zr)):=by simp
      rw [e] at q1
      exact q1
     ·rw [map_bl] at e9
      refine ⟨b,_,rfl,SqL.of e9,?_⟩
      rw [any_rng (i:=i0) (by rw [List.length_map]; omega) (by rw [hi0]; simp)]
      have F9:=(F6.mono s78).mono s9
      exact k H9 F9.tb F9.sp
end
end K63
namespace L2
open PySem
section
variable {X:Cx}
def rListOf (K:PySem.W.Frag):List V->Hp->VK->Prop:=fun xs H Q=>∃ p ys,xs=[V.ref p]/\(SqL K H p ys∨SqT K H p ys)/\∀ l,H l=none->Q (V.ref l) (upd H l (.lst ys))
theorem call_listK {K:PySem.W.Frag}(hK:X.K=K):CallR X (.type "list") (rListOf K):=by
 subst hK
 exact call_list_of
end
end L2
namespace K63
open PySem L2
open PyProof.Rows (envOfC)
abbrev s_lmet:Stmt:=top 68
def qM:Str := "_law_met" ++ ".<locals>." ++ "<lambda>"
theorem Meet.mono {H H':Hp}{p:Addr}{rs:List Str}{n:Nat}{ps:List Str}(h:Meet H p rs n ps) (s:Same H H'):Meet H' p rs n ps:=by
 rcases h with ⟨z,e,r⟩ | ⟨i,j,x,y,e,r⟩
 ·exact .inl ⟨z,s _ _ e,r⟩
 ·exact .inr ⟨i,j,x,y,s _ _ e,r⟩
def FndM (H:Hp) (r:Addr) (rs:List Str) (n:Nat) (ps:List Str):Prop:=(rs=[]/\H r=some (.tup [.str "empty"]))∨(rs≠[]/\∃ p,H r=some (.tup [.str "told",.ref p])/\Meet H p rs n ps)
theorem FndM.mono {H H':Hp}{r:Addr}{rs:List Str}{n:Nat}{ps:List Str}(h:FndM H r rs n ps) (s:Same H H'):FndM H' r rs n ps:=by
 rcases h with ⟨e,h⟩ | ⟨e,p,h,g⟩
 ·exact .inl ⟨e,s _ _ h⟩
 ·exact .inr ⟨e,p,s _ _ h,g.mono s⟩
def MM (C Pt:Addr) (H0:Hp) (t dx kp bt l kt th:Addr) (n m:Nat) (rs ps:List Str):St->Hp->Prop:=fun σ H=>∃ r,σ=[some (.ref t),some (.ref l),some (.ref kt),some (.ref th),some (.ref r),none,none,none,none,none]/\FQ qM C Pt H0 H t dx kp bt l kt n m rs/\H th=some (.lst (ps.map V.str))/\FndM H r rs n ps
noncomputable def gdL (rs:List Str) (n:Nat) (ps:List Str) (i:Nat):List Str:=(rul rs n).filter fun z=>(ps.take i).all fun x=>mB x n z
theorem gd_succ {rs:List Str}{n:Nat}{ps:List Str}{i:Nat}{x:Str}(h:ps[i]? = some x):gdL rs n ps (i + 1)=(gdL rs n ps i).filter (mB x n):=by
 unfold gdL
 rw [List.filter_filter]
 congr 1
 funext z
 rw [List.take_add_one,h,List.all_append,Bool.and_comm]
 simp
theorem gd_zero (rs:List Str) (n:Nat) (ps:List Str):gdL rs n ps 0=rul rs n:=by
 unfold gdL
 exact List.filter_eq_self.mpr fun z _=>rfl
theorem gd_row {rs:List Str}{n:Nat}{ps:List Str}{i:Nat}{z:Str}(h:z∈gdL rs n ps i):Row n z:=(rul_mem.mp (List.mem_filter.mp h).1).1
theorem gd_len {rs:List Str}{n:Nat}{ps:List Str}{i:Nat}(h:(rul rs n).length<=4096):(gdL rs n ps i).length<=4096:=Nat.le_trans (List.length_filter_le _ _) h
theorem clash_none {rs:List Str}{n:Nat}{x y z:Str}(c:Clash rs n x y) (bz:Borne rs n z) (h1:mB x n z=true) (h2:mB y n z=true):False:=by
 obtain ⟨q,r,qn,rn,qc,rc,e⟩:=c
 have e1:=((mB_iff z).mp h1 q qn).resolve_left qc
 have e2:=((mB_iff z).mp h2 r rn).resolve_left rc
 have:=bz q r qn rn
 rw [<- e1,<- e2] at this
 omega
section
variable {P:Program}{w:World}{K:PySem.W.Frag}{mg:Str->Option Value}{base:Heap}{C fi fa ft fy fm fc:Addr}{gi ga gt gy gm gc:FuncData}{W BC BS fW fC fS:Addr}{gW gC gS:FuncData}
abbrev N_me:List Str:=["_law_made", "_law_rows_here", "_law_kept", "_law_three", "_law_found", "_law_good", "_law_pattern_here", "_law_m", "_law_k", "_law_some"]
abbrev P_me:List Str:=["_law_made", "_law_rows_here", "_law_kept", "_law_three"]
theorem sc_me:FnScope N_me P_me (defScope s_lmet):=⟨rfl,rfl,rfl,by decide +kernel,rfl,by decide +kernel,by decide +kernel⟩
abbrev N_me1:List Str:=["_law_row", "_law_pattern_here"]
theorem nd_me1:N_me1.Nodup:=by decide +kernel
abbrev N_me2:List Str:=["_law_row", "_law_found"]
theorem nd_me2:N_me2.Nodup:=by decide +kernel
abbrev N_me3:List Str:=["_law_row", "_law_three", "_law_k"]
theorem nd_me3:N_me3.Nodup:=by decide +kernel
abbrev N_me4:List Str:=["_law_row", "_law_three", "_law_m"]
theorem nd_me4:N_me4.Nodup:=by decide +kernel
abbrev XM (P:Program) (w:World) (K:PySem.W.Frag) (mg:Str->Option Value) (base:Heap) (f:Addr) (cc:Addr) (A:Around) (outer:List Env) (s:Shared) (H:Hp) (E:XK):Cx :=
 (cxOf (CXE P w) P w K mg base N_me "_law_met" (defScope s_lmet) f (.ref cc) A outer s H E).nox
variable {f cc Pt:Addr}
def spLmet (C Pt:Addr):Sp:=fun vs H Q _=>∃(t dx kp bt l kt th:Addr) (n m:Nat) (rs ps:List Str),vs=[.ref t,.ref l,.ref kt,.ref th]/\FQ qM C Pt H H t dx kp bt l kt n m rs/\H th=some (.lst (ps.map V.str))/\ps.length=3/\(∀ x∈ps,Pat n x)/\∀ H',TabOk H' Pt qM->SameP Pt H H'->Q (.bl true) H'
theorem ok_lmet {oc kV doc pm ct:Value}{od an:Option Addr}{osl:Array (Option Value)}{fw fe fn fq:Addr}{gw ge gn gq:FuncData}
  (lk:K.lookup f=some ⟨oc,od,.func (PySem.W.fnOf "_law_met" "_law_met" (defArgs s_lmet) (defBody s_lmet) (defScope s_lmet) .none kV doc pm an (.ref cc) ct),osl⟩) (hcd:PySem.W.codeIn K (.ref cc) "_law_met" = true)
  (Dw:Df K mg "_law_word" s_word ["_law_asked"] fw gw) (De:Df K mg "_law_same" s_same Ps fe ge) (Dn:Df K mg "meeting" s_meeting P_mt fn gn) (Gn:∀ base,FnOk P w K mg base (CXE P w) 7 fn gn P_mt (spMeeting C BC BS))
  (Dq:Df K mg "_law_matches" s_lmat Pl fq gq) (Gq:FnOk P w K mg base (CXE P w) 1 fq gq Pl spMat) (X:Xs K mg W BC BS fW fC fS gW gC gS) (B:Bt mg) (Y:Bx mg) (Cd:PySem.W.CodeHd base cc Pt) (BM:BMain mg base) :
  FnOk P w K mg base (CXE P w) 10 f (PySem.W.fnOf "_law_met" "_law_met" (defArgs s_lmet) (defBody s_lmet) (defScope s_lmet) .none kV doc pm an (.ref cc) ct) P_me (spLmet C Pt):=by
 refine fn_of lk hcd sc_me (fun vs H Q E h=>?_) fun A outer s H vs Q E hr h=>?_
 ·obtain ⟨t,dx,kp,bt,l,kt,th,n,m,rs,ps,rfl,_⟩:=h
  rfl
 obtain ⟨t,dx,kp,bt,l,kt,th,n,m,rs,ps,rfl,F0,eth,l3,hp,k⟩:=h
 suffices hsuff:∃ t',PSs (XM P w K mg base f cc A outer s H E) (defBody s_lmet) t'/\t' { nx:=fun _ H'=>Q .non H',rt:=Q } (start N_me [.ref t,.ref l,.ref kt,.ref th]) H by
  obtain ⟨t,h1,h2⟩:=hsuff
  exact ⟨t,h1.nox,h2⟩
 have hu:(XM P w K mg base f cc A outer s H E).A.units < cLine:=hr.units0
 refine ⟨_,pss_cons (ps_cut (MM C Pt H t dx kp bt l kt th n m rs ps) (ps_set (i:=4) sc_me.nd rfl (Or.inr rfl) (pe_word (W:=W) (P:=Pt) (c:=cc) (kl:=7) (kw:=9) (N:=["_law_made", "_law_three"]) (fm:=[0,3]) (t:=fun E=>tCall (spMeeting C BC BS) [] E (tCons (tVar 0) (tCons (tCB (rListOf K) (tCons (tVar 1) tNil)) tNil))) Dw (fun base f fdl spl ho hb G=>ok_word Dw X ho hb G) (hr.mono (by decide)) rfl Cd BM (fun _=>rfl) (by exact ⟨rfl,rfl,rfl,by decide +kernel⟩) (by exact (show ∀ y:Str×NameKind,y∈_->y.2=NameKind.free->(defScope s_lmet).names.lookup y.1=some NameKind.cell by decide +kernel)) rfl (by intro i x h; match i,h with | 0,h=>cases h; exact ⟨rfl,0,rfl,rfl⟩ | 1,h=>cases h; exact ⟨rfl,3,rfl,rfl⟩ | _ + 2,h=>cases h) (by intro base f c' A outer s H E hr; exact pe_fn Dn (Gn base) hr passL (pa_cons (pv 0) (pa_cons (pe_callTy (call_listK (K:=K) rfl) (by rfl) B.list (by rfl) (pa_cons (pv 1) pa_nil)) pa_nil))) passN)))
   (pss_cons (ps_if (pt_cmpR (op_eqNil hu) (pv 1) (pe_lst pa_nil) (nomark _)) (pss_one (ps_ret (pe_fn De (ok_same De B 3) (hr.mono (by decide)) passN (pa_cons (pv 4) (pa_cons (pe_tup (pa_cons pe_str pa_nil)) pa_nil))))) pss_nil)
   (pss_cons (ps_set (i:=5) sc_me.nd rfl (Or.inl rfl) (pe_callTy call_list_of (by rfl) B.list (by rfl) (pa_cons (pv 2) pa_nil)))
   (pss_cons (ps_for PassesOwn.never rfl (pi_list (pv 3)) (pg_name (i:=6) sc_me.nd rfl (Or.inr rfl))
   (pss_one (ps_comp (i:=5) (N':=N_me1) (fm:=[none,some 6]) rfl sc_me.nd rfl rfl ⟨rfl,by decide +kernel,by decide +kernel,rfl,rfl,rfl⟩ (pi_list (pv 5)) (fun _ _ _ _=>(pg_name (i:=0) nd_me1 rfl (Or.inl rfl))) (fun _ _ _ _=>(pif_one (pt_val (pe_fn Dq Gq (hr.mono (by decide)) passN (pa_cons (pv 0) (pa_cons (pv 1) pa_nil)))))) (fun _ _ _ _=>(pv 0)))))
   (pss_cons (ps_if (pt_cmpR op_ne (pe_ix ix_tup (pv 4) pe_int (fun _ _=>rfl)) pe_str (nomark _)) (pss_one (ps_ret pe_bl)) pss_nil)
   (pss_cons (ps_if (pt_cmpR (op_neNil hu) (pv 5) (pe_lst pa_nil) (nomark _)) (pss_one (ps_ret (pe_callB (call_any rfl) (by rfl) Y.any (by rfl) (pa_cons (pe_comp (N':=N_me2) (fm:=[none,some 4]) rfl ⟨rfl,by decide +kernel,by decide +kernel,rfl,rfl,rfl⟩ (pi_list (pv 5)) (fun _ _ _ _=>(pg_name (i:=0) nd_me2 rfl (Or.inl rfl))) (fun _ _ _ _=>pif_nil) (fun _ _ _ _=>(pe_fn De (ok_same De B 3) (hr.mono (by decide)) passN (pa_cons (pe_ix (r:=rIxT K) ix_tup (pv 1) pe_int (fun _ _=>rfl)) (pa_cons (pe_tup (pa_cons pe_str (pa_cons (pv 0) pa_nil))) pa_nil))))) pa_nil)))) pss_nil)
   (pss_cons (ps_for PassesOwn.never rfl (pi_range1 (by rfl) B.range (pa_cons pe_int pa_nil)) (pg_name (i:=7) sc_me.nd rfl (Or.inr rfl))
   (pss_one (ps_for PassesOwn.never rfl (pi_range1 (by rfl) B.range (pa_cons (pe_op op_add (pv 7) pe_int) pa_nil)) (pg_name (i:=8) sc_me.nd rfl (Or.inr rfl))
   (pss_cons (ps_comp (i:=9) (N':=N_me3) (fm:=[none,some 3,some 8]) rfl sc_me.nd rfl rfl ⟨rfl,by decide +kernel,by decide +kernel,rfl,rfl,rfl⟩ (pi_list (pv 2)) (fun _ _ _ _=>(pg_name (i:=0) nd_me3 rfl (Or.inl rfl))) (fun _ _ _ _=>(pif_one (pt_val (pe_fn Dq Gq (hr.mono (by decide)) passN (pa_cons (pv 0) (pa_cons (pe_ix (r:=rIxL K) ix_list (pv 1) (pv 2) (fun _ _=>rfl)) pa_nil)))))) (fun _ _ _ _=>(pv 0)))
   (pss_cons (ps_comp (i:=9) (N':=N_me4) (fm:=[none,some 3,some 7]) rfl sc_me.nd rfl rfl ⟨rfl,by decide +kernel,by decide +kernel,rfl,rfl,rfl⟩ (pi_list (pv 9)) (fun _ _ _ _=>(pg_name (i:=0) nd_me4 rfl (Or.inl rfl))) (fun _ _ _ _=>(pif_one (pt_val (pe_fn Dq Gq (hr.mono (by decide)) passN (pa_cons (pv 0) (pa_cons (pe_ix (r:=rIxL K) ix_list (pv 1) (pv 2) (fun _ _=>rfl)) pa_nil)))))) (fun _ _ _ _=>(pv 0)))
   (pss_one (ps_if (PW.pt (pw_and (pt_cmpR (op_eqNil hu) (pv 9) (pe_lst pa_nil) (nomark _)) (pw_and1 (pt_val (pe_fn De (ok_same De B 3) (hr.mono (by decide)) passN (pa_cons (pe_ix ix_tup (pv 4) pe_int (fun _ _=>rfl)) (pa_cons (pe_tup (pa_cons pe_str (pa_cons (pv 8) (pa_cons (pv 7) pa_nil)))) pa_nil))))))) (pss_one (ps_ret pe_bl)) pss_nil)))))))
   (pss_one (ps_ret pe_bl)))))))),?_⟩
 have n12:=F0.n12
 refine ⟨?_,?_⟩
 ·refine ⟨F0.tb,fun H1 T1 sp1=>?_⟩
  have F1:=F0.monoP T1 sp1
  have et1:=keepP F0.tb sp1 eth (fun ps z=>by cases z)
  refine ⟨_,rfl,_,rfl,th,_,rfl,.inl (SqL.of et1),fun pl npl=>?_⟩
  have sl:=Same.new (o:=.lst (ps.map V.str)) npl
  have F2:=F1.mono sl
  refine ⟨t,dx,kp,bt,pl,n,m,rs,ps,rfl,F2.tab,upd_same,fun x hx=>by rw [(hp x hx).len]; omega,by omega,F2.n1,F2.n12,F2.rows,fun ⟨x,hx,z⟩=>absurd (hp x hx) z,fun _ re dx' H3 s3 ex=>?_,fun _ rne p H3 s3 mt=>toldQ.mk fun r nr=>?_⟩
  ·refine ⟨BS,dx',_,rfl,rfl,ex,X.sS,X.kS,fun H4 r s4 nr=>?_⟩
   have st:=s3.trans' (s4.trans' (Same.new (o:=.tup [.str "empty"]) nr))
   exact ⟨r,rfl,F2.mono st,st _ _ (sl _ _ et1),.inl ⟨re,upd_same⟩⟩
  ·have st:=s3.trans' (Same.new (o:=.tup [.str "told",.ref p]) nr)
   exact ⟨r,rfl,F2.mono st,st _ _ (sl _ _ et1),.inr ⟨rne,p,upd_same,mt.mono (Same.new nr)⟩⟩
 ·rintro σ' H1 ⟨r,rfl,F1,et1,fd⟩
  have rr:∀ z∈rul rs n,Row n z:=fun z hz=>(rul_mem.mp hz).1
  refine ⟨_,rfl,Nat.zero_le _,fun pe hpe=>?_⟩
  have se:=Same.new (o:=.lst []) hpe
  have F2:=F1.mono se
  have fd2:=fd.mono se
  have et2:=se _ _ et1
  refine ⟨l,pe,_,rfl,rfl,SqL.of F2.el,SqL.of upd_same,_,rfl,ite2 (fun c=>?_) (fun c=>?_)⟩
  ·rcases fd2 with ⟨re,er⟩ | ⟨rne,_⟩
   ·refine ⟨_,rfl,len_le (show 1<=100 by decide),fun T nT=>?_⟩
    have sT:=Same.new (o:=.tup [.str "empty"]) nT
    refine ⟨.ref r,.ref T,_,_,rfl,den_w (sT _ _ er),den_w upd_same,by decide,fun H6 s6=>?_⟩
    rw [eqb_w]
    have F6:=(F2.mono sT).mono s6
    exact k H6 F6.tb F6.sp
   ·exfalso
    cases rs with
    | nil=>exact rne rfl
    | cons a b=>cases c
  have rne:rs≠[]:=fun z=>c (by rw [z]; rfl)
  rcases fd2 with ⟨re,_⟩ | ⟨_,p,er,mt⟩
  ·exact absurd re rne
  refine ⟨_,rfl,kt,_,rfl,.inl (SqL.of F2.ek),fun g0 ng0=>?_⟩
  have sg:=Same.new (o:=.lst ((rul rs n).map V.str)) ng0
  have F3:=F2.mono sg
  have et3:=sg _ _ et2
  have er3:=sg _ _ er
  have mt3:=mt.mono sg
  have eg3:(upd (upd H1 pe (.lst [])) g0 (.lst ((rul rs n).map V.str))) g0=some (.lst ((rul rs n).map V.str)):=upd_same
  generalize upd (upd H1 pe (.lst [])) g0 (.lst ((rul rs n).map V.str))=H3 at *
  have mat:∀(x:Str),Pat n x->∀(z:Str) (H':Hp) (R:Bool->Hp->Prop),Row n z->(∀ H'',Same H' H''->R (mB x n z) H'')->spMat [.str z,.str x] H' (fun v H''=>∃ k,v=.bl k/\R k H'') E0:=fun x px z H' R rz r =>
   ⟨ch z,ch x,n,by rw [<- row_tx' rz.len,<- row_tx' px.len],by omega,fun H'' s''=>⟨_,rfl,by rw [mat_mB]; exact r H'' s''⟩⟩
  refine ⟨_,rfl,th,rfl,⟨_,SqL.of et3⟩,?_⟩
  refine for_list (K:=K) (a:=th) (xs:=ps.map V.str) (fun i σ H4=>∃ g v6,σ=[some (.ref t),some (.ref l),some (.ref kt),some (.ref th),some (.ref r),some (.ref g),v6,none,none,none]/\Same H3 H4/\H4 g=some (.lst ((gdL rs n ps i).map V.str)))
   ⟨g0,none,rfl,Same.refl H3,by rw [gd_zero]; exact eg3⟩ (fun i σ H4 _ ⟨_,_,_,s4,_⟩=>SqL.of (s4 _ _ et3)) ?_ ?_
  ·rintro i v σ H4 hi ⟨g,v6,rfl,s4,e4⟩
   rw [List.getElem?_map] at hi
   cases zx:ps[i]? with
   | none=>rw [zx] at hi; cases hi
   | some x =>
   rw [zx] at hi
   cases hi
   have px:=hp x (List.mem_of_getElem? zx)
   refine ⟨_,rfl,g,rfl,⟨_,SqL.of e4⟩,fun q nq=>good_blk (x:=x) e4 (fun z hz=>gd_row hz) (gd_len F3.rl) nq (fun z H' R _ rz r=>⟨_,rfl,_,rfl,mat x px z H' R rz r⟩) (fun z H' R q=>⟨_,rfl,q⟩) fun H5 s5 e5=>?_⟩
   exact ⟨q,_,rfl,s4.trans' s5,by rw [gd_succ zx]; exact e5⟩
  ·rintro σ H4 ⟨g,v6,rfl,s4,e4⟩
   rw [List.length_map] at e4
   have F4:=F3.mono s4
   have er4:=s4 _ _ er3
   have mt4:=mt3.mono s4
   have et4:=s4 _ _ et3
   refine ⟨_,rfl,r,_,_,_,rfl,rfl,SqT.of er4,(show _=some (V.str "told") from rfl),rfl,_,rfl,?_⟩
   show if (!decide (V.str ("told" : Str)=V.str ("told" : Str)))=true then _ else _
   rw [decide_eq_true rfl]
   refine iteF ⟨_,rfl,Nat.zero_le _,fun pe2 hpe2=>?_⟩
   have se2:=Same.new (o:=.lst []) hpe2
   have F5:=F4.mono se2
   have er5:=se2 _ _ er4
   have mt5:=mt4.mono se2
   have et5:=se2 _ _ et4
   have e5:=se2 _ _ e4
   have ep2:(upd H4 pe2 (.lst [])) pe2=some (.lst []):=upd_same
   generalize upd H4 pe2 (.lst [])=H5 at *
   refine ⟨g,pe2,_,rfl,rfl,SqL.of e5,SqL.of ep2,_,rfl,ite2 (fun c3=>?_) (fun c3=>?_)⟩
   ·rcases mt5 with ⟨z,ez,rz,bz,mz⟩ | ⟨i,j,x,y,ez,ij,hx,hy,cl⟩
    ·have zg:z∈gdL rs n ps ps.length:=List.mem_filter.mpr ⟨rul_mem.mpr ⟨rz,bz⟩,List.all_eq_true.mpr fun x hx=>(mB_iff z).mpr fun i hi=>(Classical.em (ch x i=45)).elim .inl fun h=>.inr (mz x (List.mem_of_mem_take hx) i hi h).symm⟩
     obtain ⟨i0,hi0⟩:=List.getElem?_of_mem zg
     refine ⟨_,rfl,g,rfl,⟨_,SqL.of e5⟩,fun b nb=>bools_blk (f:=fun i=>decide (some z=(gdL rs n ps ps.length)[i]?)) e5 (by rw [List.length_map]; have:=gd_len (ps:=ps) (i:=ps.length) F3.rl; omega) nb (fun i v H' R hi s' rr'=>?_) fun H7 s7 e7=>?_⟩
     ·rw [List.getElem?_map] at hi
      cases zz:(gdL rs n ps ps.length)[i]? with
      | none=>rw [zz] at hi; cases hi
      | some y =>
      rw [zz] at hi
      cases hi
      refine ⟨_,rfl,r,_,_,_,rfl,rfl,SqT.of (s' _ _ er5),(show _=some (V.ref p) from rfl),_,rfl,len_le (show 2<=100 by decide),fun T nT=>?_⟩
      have sT:=Same.new (o:=.tup [.str "row",.str y]) nT
      refine ⟨.ref p,.ref T,_,_,rfl,den_rs (sT _ _ (s' _ _ ez)),den_rs upd_same,by show 1<=2; decide,fun H'' s''=>?_⟩
      rw [eqb_rs]
      have q:R (.bl (decide (some z=(gdL rs n ps ps.length)[i]?))) H'':=rr' H'' (sT.trans' s'')
      have e:decide (some z=(gdL rs n ps ps.length)[i]?)=decide (z=y):=by rw [zz]; simp
      rw [e] at q
      exact q
     ·rw [map_bl] at e7
      refine ⟨b,_,rfl,SqL.of e7,?_⟩
      rw [any_rng (i:=i0) (by rw [List.length_map]; exact (List.getElem?_eq_some_iff.mp hi0).1) (by rw [hi0]; simp)]
      have F7:=F5.mono s7
      exact k H7 F7.tb F7.sp
    ·exfalso
     cases hg:gdL rs n ps ps.length with
     | nil=>rw [hg] at c3; cases c3
     | cons z zs =>
      have hz:z∈gdL rs n ps ps.length:=by rw [hg]; exact List.mem_cons_self
      obtain ⟨h1,h2⟩:=List.mem_filter.mp hz
      rw [List.take_of_length_le (Nat.le_refl _)] at h2
      have h2:=List.all_eq_true.mp h2
      exact clash_none cl (rul_mem.mp h1).2 (h2 x (List.mem_of_getElem? hx)) (h2 y (List.mem_of_getElem? hy))
   ·rcases mt5 with ⟨z,ez,rz,bz,mz⟩ | ⟨i0,j0,x,y,ez,ij,hx,hy,cl⟩
    ·exfalso
     have zg:z∈gdL rs n ps ps.length:=List.mem_filter.mpr ⟨rul_mem.mpr ⟨rz,bz⟩,List.all_eq_true.mpr fun x hx=>(mB_iff z).mpr fun i hi=>(Classical.em (ch x i=45)).elim .inl fun h=>.inr (mz x (List.mem_of_mem_take hx) i hi h).symm⟩
     cases hg:gdL rs n ps ps.length with
     | nil=>rw [hg] at zg; cases zg
     | cons y ys=>rw [hg] at c3; exact c3 rfl
    ·have j3:j0 < 3:=by have:=(List.getElem?_eq_some_iff.mp hy).1; omega
     refine ⟨_,rfl,by decide,by decide,?_⟩
     refine for_range (fun m' σ H6=>∃ v7 v8 v9,σ=[some (.ref t),some (.ref l),some (.ref kt),some (.ref th),some (.ref r),some (.ref g),v6,v7,v8,v9]/\Same H5 H6/\m'<=j0) ⟨none,none,none,rfl,Same.refl H5,Nat.zero_le _⟩ ?_ ?_
     ·rintro m' σ H6 hm ⟨v7,v8,v9,rfl,s6,mj⟩
      rw [Int.zero_add]
      refine ⟨_,rfl,_,_,rfl,rfl,_,rfl,by omega,by omega,?_⟩
      rw [show ((m':Int) + 1).toNat=m' + 1 by omega]
      refine for_range (fun k' σ H7=>∃ v8 v9,σ=[some (.ref t),some (.ref l),some (.ref kt),some (.ref th),some (.ref r),some (.ref g),v6,some (.int (m':Nat)),v8,v9]/\Same H5 H7/\(m'=j0->k'<=i0)) ⟨_,_,rfl,s6,fun _=>Nat.zero_le _⟩ ?_ ?_
      ·rintro k' σ H7 hk ⟨v8,v9,rfl,s7,kj⟩
       rw [Int.zero_add]
       have F7:=F5.mono s7
       have k3:k' < 3:=by omega
       obtain ⟨xk,hk'⟩:∃ y,ps[k']? = some y:=⟨_,List.getElem?_eq_getElem (by omega)⟩
       obtain ⟨xm,hm'⟩:∃ y,ps[m']? = some y:=⟨_,List.getElem?_eq_getElem (by omega)⟩
       have pk:=hp xk (List.mem_of_getElem? hk')
       have pm':=hp xm (List.mem_of_getElem? hm')
       have et7:=s7 _ _ et5
       have ak:atI (ps.map V.str) (k':Int)=some (.str xk):=atI_nat (by rw [List.getElem?_map,hk']; rfl)
       have am:atI (ps.map V.str) (m':Int)=some (.str xm):=atI_nat (by rw [List.getElem?_map,hm']; rfl)
       refine ⟨_,rfl,kt,rfl,⟨_,SqL.of F7.ek⟩,fun q1 nq1=>good_blk (x:=xk) F7.ek rr F7.rl nq1 (fun z H' R s' rz rr'=>⟨_,rfl,_,rfl,_,rfl,th,_,_,_,rfl,rfl,SqL.of (s' _ _ et7),ak,mat xk pk z H' R rz rr'⟩) (fun z H' R q=>⟨_,rfl,q⟩) fun H8 s8 e8=>?_⟩
       have l8:((rul rs n).filter (mB xk n)).length<=4096:=Nat.le_trans (List.length_filter_le _ _) F7.rl
       have et8:=s8 _ _ et7
       refine ⟨_,rfl,q1,rfl,⟨_,SqL.of e8⟩,fun q2 nq2=>good_blk (x:=xm) e8 (fun z hz=>rr z (List.mem_filter.mp hz).1) l8 nq2 (fun z H' R s' rz rr'=>⟨_,rfl,_,rfl,_,rfl,th,_,_,_,rfl,rfl,SqL.of (s' _ _ et8),am,mat xm pm' z H' R rz rr'⟩) (fun z H' R q=>⟨_,rfl,q⟩) fun H9 s9 e9=>?_⟩
       have s79:=s8.trans' s9
       refine ⟨_,rfl,Nat.zero_le _,fun pe3 hpe3=>?_⟩
       have se3:=Same.new (o:=.lst []) hpe3
       have s7a:=s79.trans' se3
       have next:∀(H':Hp),Same H7 H'->¬ (k'=i0/\m'=j0)->∃ v8 v9_1,[some (V.ref t),some (V.ref l),some (V.ref kt),some (V.ref th),some (V.ref r),some (V.ref g),v6,some (V.int (m':Nat)),some (V.int (k':Nat)),some (V.ref q2)]=[some (.ref t),some (.ref l),some (.ref kt),some (.ref th),some (.ref r),some (.ref g),v6,some (.int (m':Nat)),v8,v9_1]/\Same H5 H'/\(m'=j0->k' + 1<=i0):=fun H' s' no=>⟨_,_,rfl,s7.trans' s',fun e=>by have:=kj e; have:k'≠i0:=fun w=>no ⟨w,e⟩; omega⟩
       refine ⟨q2,pe3,_,rfl,rfl,SqL.of (se3 _ _ e9),SqL.of upd_same,_,rfl,ite2 (fun c4=>?_) (fun c4=>iteF (next _ s7a fun ⟨w1,w2⟩=>?_))⟩
       ·refine ⟨_,rfl,r,_,_,_,rfl,rfl,SqT.of (s7a _ _ (s7 _ _ er5)),(show _=some (V.ref p) from rfl),_,rfl,_,rfl,len_le (show 3<=100 by decide),fun T nT=>?_⟩
        have sT:=Same.new (o:=.tup [.str "apart",.int (k':Nat),.int (m':Nat)]) nT
        have s7b:=s7a.trans' sT
        refine ⟨.ref p,.ref T,_,_,rfl,den_nq (s7b _ _ (s7 _ _ ez)),den_nq upd_same,by show 1<=2; decide,fun Hf sf=>?_⟩
        rw [eqb_nq]
        refine ⟨_,rfl,ite2 (fun c5=>?_) (fun c5=>next _ (s7b.trans' sf) fun ⟨w1,w2⟩=>c5 (decide_eq_true (by rw [w1,w2])))⟩
        have Ff:=F7.mono (s7b.trans' sf)
        exact k Hf Ff.tb Ff.sp
       ·rw [w1,hx] at hk'
        cases hk'
        rw [w2,hy] at hm'
        cases hm'
        apply c4
        cases hg:((rul rs n).filter (mB x n)).filter (mB y n) with
        | nil=>rfl
        | cons z zs =>
         exfalso
         have hz:z∈((rul rs n).filter (mB x n)).filter (mB y n):=by rw [hg]; exact List.mem_cons_self
         obtain ⟨h1,h2⟩:=List.mem_filter.mp hz
         obtain ⟨h3,h4⟩:=List.mem_filter.mp h1
         exact clash_none cl (rul_mem.mp h3).2 h4 h2
      ·rintro σ H7 ⟨v8,v9,rfl,s7,kj⟩
       refine ⟨_,_,_,rfl,s7,?_⟩
       by_cases c:m'=j0
       ·have:=kj c; omega
       ·omega
     ·rintro σ H6 ⟨v7,v8,v9,rfl,s6,mj⟩
      exfalso
      have:(3:Int).toNat<=j0:=mj
      have:3<=j0:=this
      omega
end
end K63
namespace K63
open PySem L2
open PyProof.Rows (envOfC)
abbrev s_lnear:Stmt:=top 69
def qN:Str := "_law_near" ++ ".<locals>." ++ "<lambda>"
def FndN (H:Hp) (r:Addr) (rs:List Str) (n:Nat) (g x:Str):Prop:=(¬ Stands rs n g/\H r=some (.tup [.str "unmatched"]))∨(Stands rs n g/\∃ z,H r=some (.tup [.str "told",.str z])/\Near rs n g x z)
theorem FndN.mono {H H':Hp}{r:Addr}{rs:List Str}{n:Nat}{g x:Str}(h:FndN H r rs n g x) (s:Same H H'):FndN H' r rs n g x:=by
 rcases h with ⟨e,h⟩ | ⟨e,z,h,g⟩
 ·exact .inl ⟨e,s _ _ h⟩
 ·exact .inr ⟨e,z,s _ _ h,g⟩
def MN (C Pt:Addr) (H0:Hp) (t dx kp bt l kt:Addr) (n m:Nat) (rs:List Str) (x g:Str):St->Hp->Prop:=fun σ H=>∃ r,σ=[some (.ref t),some (.ref l),some (.ref kt),some (.str x),some (.str g),some (.ref r),none,none,none,none]/\FQ qN C Pt H0 H t dx kp bt l kt n m rs/\FndN H r rs n g x
section
variable {P:Program}{w:World}{K:PySem.W.Frag}{mg:Str->Option Value}{base:Heap}{C fi fa ft fy fm fc:Addr}{gi ga gt gy gm gc:FuncData}{W BC BS fW fC fS BU fU:Addr}{gW gC gS gU:FuncData}
abbrev N_nr:List Str:=["_law_made", "_law_rows_here", "_law_kept", "_law_row", "_law_pattern_here", "_law_found", "_law_good", "_law_sheaves", "_law_near_here", "_law_one"]
abbrev P_nr:List Str:=["_law_made", "_law_rows_here", "_law_kept", "_law_row", "_law_pattern_here"]
theorem sc_nr:FnScope N_nr P_nr (defScope s_lnear):=⟨rfl,rfl,rfl,by decide +kernel,rfl,by decide +kernel,by decide +kernel⟩
abbrev N_nr1:List Str:=["_law_one", "_law_pattern_here"]
theorem nd_nr1:N_nr1.Nodup:=by decide +kernel
abbrev N_nr2:List Str:=["_law_one", "_law_found"]
theorem nd_nr2:N_nr2.Nodup:=by decide +kernel
abbrev XN (P:Program) (w:World) (K:PySem.W.Frag) (mg:Str->Option Value) (base:Heap) (f:Addr) (cc:Addr) (A:Around) (outer:List Env) (s:Shared) (H:Hp) (E:XK):Cx :=
 (cxOf (CXE P w) P w K mg base N_nr "_law_near" (defScope s_lnear) f (.ref cc) A outer s H E).nox
variable {f cc Pt:Addr}
def spLnear (C Pt:Addr):Sp:=fun vs H Q _=>∃(t dx kp bt l kt:Addr) (n m:Nat) (rs:List Str) (x g:Str),vs=[.ref t,.ref l,.ref kt,.str x,.str g]/\FQ qN C Pt H H t dx kp bt l kt n m rs/\Row n x/\Borne rs n x/\Pat n g/\∀ H',TabOk H' Pt qN->SameP Pt H H'->Q (.bl true) H'
theorem ok_lnear {oc kV doc pm ct:Value}{od an:Option Addr}{osl:Array (Option Value)}{fw fe fn fq fb fp:Addr}{gw ge gn gq gb gp:FuncData}
  (lk:K.lookup f=some ⟨oc,od,.func (PySem.W.fnOf "_law_near" "_law_near" (defArgs s_lnear) (defBody s_lnear) (defScope s_lnear) .none kV doc pm an (.ref cc) ct),osl⟩) (hcd:PySem.W.codeIn K (.ref cc) "_law_near" = true)
  (Dw:Df K mg "_law_word" s_word ["_law_asked"] fw gw) (De:Df K mg "_law_same" s_same Ps fe ge) (Dn:Df K mg "nearest" s_nearest P_ne fn gn) (Gn:∀ base,FnOk P w K mg base (CXE P w) 8 fn gn P_ne (spNearest C BU)) (Dq:Df K mg "_law_matches" s_lmat Pl fq gq) (Gq:FnOk P w K mg base (CXE P w) 1 fq gq Pl spMat)
  (Db:Df K mg "_law_bundles" s_lbun P_lb fb gb) (Gb:FnOk P w K mg base (CXE P w) 2 fb gb P_lb (spLbun K)) (Dp:Df K mg "_law_apart" s_lapart P_la fp gp) (Gp:FnOk P w K mg base (CXE P w) 1 fp gp P_la (spLapart K))
  (X:Xs K mg W BC BS fW fC fS gW gC gS) (Z:Xc K mg W BU fU gU "Unmatched" "Unmatched.__init__" s_uinit) (B:Bt mg) (Y:Bx mg) (Cd:PySem.W.CodeHd base cc Pt) (BM:BMain mg base) :
  FnOk P w K mg base (CXE P w) 11 f (PySem.W.fnOf "_law_near" "_law_near" (defArgs s_lnear) (defBody s_lnear) (defScope s_lnear) .none kV doc pm an (.ref cc) ct) P_nr (spLnear C Pt):=by
 refine fn_of lk hcd sc_nr (fun vs H Q E h=>?_) fun A outer s H vs Q E hr h=>?_
 ·obtain ⟨t,dx,kp,bt,l,kt,n,m,rs,x,g,rfl,_⟩:=h
  rfl
 obtain ⟨t,dx,kp,bt,l,kt,n,m,rs,x,g,rfl,F0,rx,bx,hp,k⟩:=h
 suffices hsuff:∃ t',PSs (XN P w K mg base f cc A outer s H E) (defBody s_lnear) t'/\t' { nx:=fun _ H'=>Q .non H',rt:=Q } (start N_nr [.ref t,.ref l,.ref kt,.str x,.str g]) H by
  obtain ⟨t,h1,h2⟩:=hsuff
  exact ⟨t,h1.nox,h2⟩
 have hu:(XN P w K mg base f cc A outer s H E).A.units < cLine:=hr.units0
 refine ⟨_,pss_cons (ps_cut (MN C Pt H t dx kp bt l kt n m rs x g) (ps_set (i:=5) sc_nr.nd rfl (Or.inr rfl) (pe_word (W:=W) (P:=Pt) (c:=cc) (kl:=8) (kw:=10) (N:=["_law_made", "_law_row", "_law_pattern_here"]) (fm:=[0,3,4]) (t:=fun E=>tCall (spNearest C BU) [] E (tCons (tVar 0) (tCons (tVar 1) (tCons (tVar 2) tNil)))) Dw (fun base f fdl spl ho hb G=>ok_word Dw X ho hb G) (hr.mono (by decide)) rfl Cd BM (fun _=>rfl) (by exact ⟨rfl,rfl,rfl,by decide +kernel⟩) (by exact (show ∀ y:Str×NameKind,y∈_->y.2=NameKind.free->(defScope s_lnear).names.lookup y.1=some NameKind.cell by decide +kernel)) rfl (by intro i x h; match i,h with | 0,h=>cases h; exact ⟨rfl,0,rfl,rfl⟩ | 1,h=>cases h; exact ⟨rfl,3,rfl,rfl⟩ | 2,h=>cases h; exact ⟨rfl,4,rfl,rfl⟩ | _ + 3,h=>cases h) (by intro base f c' A outer s H E hr; exact pe_fn Dn (Gn base) hr passL (pa_cons (pv 0) (pa_cons (pv 1) (pa_cons (pv 2) pa_nil)))) passN)))
   (pss_cons (ps_comp (i:=6) (N':=N_nr1) (fm:=[none,some 4]) rfl sc_nr.nd rfl rfl ⟨rfl,by decide +kernel,by decide +kernel,rfl,rfl,rfl⟩ (pi_list (pv 2)) (fun _ _ _ _=>(pg_name (i:=0) nd_nr1 rfl (Or.inl rfl))) (fun _ _ _ _=>(pif_one (pt_val (pe_fn Dq Gq (hr.mono (by decide)) passN (pa_cons (pv 0) (pa_cons (pv 1) pa_nil)))))) (fun _ _ _ _=>(pv 0)))
   (pss_cons (ps_if (pt_cmpR (op_eqNil hu) (pv 6) (pe_lst pa_nil) (nomark _)) (pss_one (ps_ret (pe_fn De (ok_same De B 3) (hr.mono (by decide)) passN (pa_cons (pv 5) (pa_cons (pe_tup (pa_cons pe_str pa_nil)) pa_nil))))) pss_nil)
   (pss_cons (ps_if (PW.pt (pw_or (pt_cmpR op_ne (pe_ix ix_tup (pv 5) pe_int (fun _ _=>rfl)) pe_str (nomark _)) (pw_or1 (pt_not (pt_val (pe_callB (call_any rfl) (by rfl) Y.any (by rfl) (pa_cons (pe_comp (N':=N_nr2) (fm:=[none,some 5]) rfl ⟨rfl,by decide +kernel,by decide +kernel,rfl,rfl,rfl⟩ (pi_list (pv 6)) (fun _ _ _ _=>(pg_name (i:=0) nd_nr2 rfl (Or.inl rfl))) (fun _ _ _ _=>pif_nil) (fun _ _ _ _=>(pe_fn De (ok_same De B 3) (hr.mono (by decide)) passN (pa_cons (pe_ix (r:=rIxT K) ix_tup (pv 1) pe_int (fun _ _=>rfl)) (pa_cons (pv 0) pa_nil))))) pa_nil))))))) (pss_one (ps_ret pe_bl)) pss_nil)
   (pss_cons (ps_set (i:=7) sc_nr.nd rfl (Or.inl rfl) (pe_fn Db Gb (hr.mono (by decide)) passN (pa_cons (pv 1) (pa_cons (pe_callB call_len_str (by rfl) B.len PySem.boot_len (pa_cons (pv 3) pa_nil)) pa_nil))))
   (pss_cons (ps_set (i:=8) sc_nr.nd rfl (Or.inl rfl) (pe_callB call_len_seq (by rfl) B.len PySem.boot_len (pa_cons (pe_fn Dp Gp (hr.mono (by decide)) passN (pa_cons (pv 7) (pa_cons (pv 3) (pa_cons (pe_ix ix_tup (pv 5) pe_int (fun _ _=>rfl)) pa_nil)))) pa_nil)))
   (pss_cons (ps_for PassesOwn.never rfl (pi_list (pv 6)) (pg_name (i:=9) sc_nr.nd rfl (Or.inl rfl))
   (pss_one (ps_if (pt_cmpR op_ne (pe_callB call_len_seq (by rfl) B.len PySem.boot_len (pa_cons (pe_fn Dp Gp (hr.mono (by decide)) passN (pa_cons (pv 7) (pa_cons (pv 3) (pa_cons (pv 9) pa_nil)))) pa_nil)) (pe_op op_add (pv 8) (pe_callB call_len_seq (by rfl) B.len PySem.boot_len (pa_cons (pe_fn Dp Gp (hr.mono (by decide)) passN (pa_cons (pv 7) (pa_cons (pe_ix ix_tup (pv 5) pe_int (fun _ _=>rfl)) (pa_cons (pv 9) pa_nil)))) pa_nil))) (nomark _)) (pss_one (ps_ret pe_bl)) pss_nil)))
   (pss_one (ps_ret pe_bl)))))))),?_⟩
 have n12:=F0.n12
 refine ⟨?_,?_⟩
 ·refine ⟨F0.tb,fun H1 T1 sp1=>?_⟩
  have F1:=F0.monoP T1 sp1
  refine ⟨_,rfl,_,rfl,_,rfl,t,dx,kp,bt,n,m,rs,x,g,rfl,F1.tab,rx,bx,hp,F1.n1,F1.n12,fun ns dx' H3 s3 ex=>?_,fun st z H3 nz s3=>toldQ.mk fun r nr=>?_⟩
  ·refine ⟨BU,dx',_,rfl,rfl,ex,Z.s,Z.k,fun H4 r s4 nr=>?_⟩
   exact ⟨r,rfl,F1.mono (s3.trans' (s4.trans' (Same.new nr))),.inl ⟨ns,upd_same⟩⟩
  ·exact ⟨r,rfl,F1.mono (s3.trans' (Same.new nr)),.inr ⟨st,z,upd_same,nz⟩⟩
 ·rintro σ' H1 ⟨r,rfl,F1,fd⟩
  have rr:∀ z∈rul rs n,Row n z:=fun z hz=>(rul_mem.mp hz).1
  refine ⟨_,rfl,kt,rfl,⟨_,SqL.of F1.ek⟩,fun o no=>good_blk (x:=g) F1.ek rr F1.rl no (fun z H' R _ rz r=>⟨_,rfl,_,rfl,ch z,ch g,n,?_,by omega,fun H'' s''=>⟨_,rfl,?_⟩⟩) (fun z H' R q=>⟨_,rfl,q⟩) fun H2 s2 e2=>?_⟩
  ·show [V.str z,V.str g]=[V.str (tx n (ch z)),V.str (tx n (ch g))]
   rw [<- row_tx' rz.len,<- row_tx' hp.len]
  ·show R (matA (ch z) (ch g) n) H''
   rw [mat_mB]
   exact r H'' s''
  have F2:=F1.mono s2
  have fd2:=fd.mono s2
  have lg:((rul rs n).filter (mB g n)).length<=4096:=Nat.le_trans (List.length_filter_le _ _) F1.rl
  have gdm:∀ y∈(rul rs n).filter (mB g n),Row n y/\Borne rs n y/\Mt n g y:=fun y hy=>by
   obtain ⟨h1,h2⟩:=List.mem_filter.mp hy
   obtain ⟨a,b⟩:=rul_mem.mp h1
   exact ⟨a,b,(mB_iff y).mp h2⟩
  refine ⟨_,rfl,Nat.zero_le _,fun pe hpe=>?_⟩
  have se:=Same.new (o:=.lst []) hpe
  have F3:=F2.mono se
  have fd3:=fd2.mono se
  have e3:=se _ _ e2
  have ep3:(upd H2 pe (.lst [])) pe=some (.lst []):=upd_same
  generalize upd H2 pe (.lst [])=H3 at *
  refine ⟨o,pe,_,rfl,rfl,SqL.of e3,SqL.of ep3,_,rfl,ite2 (fun c=>?_) (fun c=>?_)⟩
  ·rcases fd3 with ⟨ns,er⟩ | ⟨st,z,er,N⟩
   ·refine ⟨_,rfl,len_le (show 1<=100 by decide),fun T nT=>?_⟩
    have sT:=Same.new (o:=.tup [.str "unmatched"]) nT
    refine ⟨.ref r,.ref T,_,_,rfl,den_w (sT _ _ er),den_w upd_same,by decide,fun H6 s6=>?_⟩
    rw [eqb_w]
    have F6:=(F3.mono sT).mono s6
    exact k H6 F6.tb F6.sp
   ·exfalso
    have:z∈(rul rs n).filter (mB g n):=List.mem_filter.mpr ⟨rul_mem.mpr ⟨N.row,Near.borne F0.rows rx bx st N⟩,(mB_iff z).mpr (Near.mt F0.rows rx bx hp st N)⟩
    cases hg:(rul rs n).filter (mB g n) with
    | nil=>rw [hg] at this; cases this
    | cons a b=>rw [hg] at c; cases c
  rcases fd3 with ⟨ns,er⟩ | ⟨st,z,er,N⟩
  ·exfalso
   cases hg:(rul rs n).filter (mB g n) with
   | nil=>rw [hg] at c; exact c rfl
   | cons y ys =>
    obtain ⟨_,by',my⟩:=gdm y (by rw [hg]; exact List.mem_cons_self)
    refine ns fun q r qn rn qc rc=>?_
    have:=by' q r qn rn
    rw [<- (my q qn).resolve_left qc,<- (my r rn).resolve_left rc] at this
    exact this
  have rz:=N.row
  have bz:=Near.borne F0.rows rx bx st N
  have zin:z∈(rul rs n).filter (mB g n):=List.mem_filter.mpr ⟨rul_mem.mpr ⟨rz,bz⟩,(mB_iff z).mpr (Near.mt F0.rows rx bx hp st N)⟩
  obtain ⟨i0,hi0⟩:=List.getElem?_of_mem zin
  refine ⟨_,rfl,r,_,_,_,rfl,rfl,SqT.of er,(show _=some (V.str "told") from rfl),rfl,_,rfl,?_⟩
  show if (!decide (V.str ("told" : Str)=V.str ("told" : Str)))=true then _ else _
  rw [decide_eq_true rfl]
  refine iteF ⟨_,rfl,o,rfl,⟨_,SqL.of e3⟩,fun b nb=>bools_blk (f:=fun i=>decide (some z=((rul rs n).filter (mB g n))[i]?)) e3 (by rw [List.length_map]; omega) nb (fun i v H' R hi s' rr'=>?_) fun H7 s7 e7=>?_⟩
  ·rw [List.getElem?_map] at hi
   cases zz:((rul rs n).filter (mB g n))[i]? with
   | none=>rw [zz] at hi; cases hi
   | some y =>
   rw [zz] at hi
   cases hi
   refine ⟨_,rfl,r,_,_,_,rfl,rfl,SqT.of (s' _ _ er),(show _=some (V.str z) from rfl),_,rfl,.str z,.str y,_,_,rfl,.str z,.str y,by show 0<=2; decide,fun H'' s''=>?_⟩
   have q:R (.bl (decide (some z=((rul rs n).filter (mB g n))[i]?))) H'':=rr' H'' s''
   have e:decide (some z=((rul rs n).filter (mB g n))[i]?)=decide (z=y):=by rw [zz]; simp
   rw [e] at q
   exact q
  ·rw [map_bl] at e7
   refine ⟨b,_,rfl,SqL.of e7,?_⟩
   rw [any_rng (i:=i0) (by rw [List.length_map]; exact (List.getElem?_eq_some_iff.mp hi0).1) (by rw [hi0]; simp)]
   have F7:=F3.mono s7
   have er7:=s7 _ _ er
   have e7':=s7 _ _ e3
   refine ⟨_,rfl,iteF ⟨_,rfl,_,rfl,x,rfl,?_,l,n,rs,?_,SqL.of F7.el,F7.rows,n12,fun sh H8 Bs=>?_⟩⟩
   ·rw [rx.len]; exact len_le (by omega)
   ·rw [rx.len]; rfl
   have s8:=Bs.same
   have bs8:=Buns.now Bs
   have F8:=F7.mono s8
   have er8:=s8 _ _ er7
   have e8:=s8 _ _ e7'
   refine ⟨_,rfl,_,rfl,_,rfl,r,_,_,_,rfl,rfl,SqT.of er8,(show _=some (V.str z) from rfl),sh,n,rs,x,z,rfl,bs8,F8.rows,rx,rz,n12,fun p3 xs3 H9 hp3 s9 e9 l9=>⟨p3,_,rfl,.inl (SqL.of e9),?_⟩⟩
   have F9:=F8.mono s9
   have er9:=s9 _ _ er8
   have eo9:=s9 _ _ e8
   have bs9:=bs8.mono s9
   refine ⟨_,rfl,o,rfl,⟨_,SqL.of eo9⟩,?_⟩
   refine for_list (K:=K) (a:=o) (xs:=((rul rs n).filter (mB g n)).map V.str) (fun i σ H4=>∃ v9,σ=[some (.ref t),some (.ref l),some (.ref kt),some (.str x),some (.str g),some (.ref r),some (.ref o),some (.ref sh),some (.int (xs3.length:Nat)),v9]/\Same H9 H4) ⟨_,rfl,Same.refl _⟩ (fun i σ H4 _ ⟨_,_,s4⟩=>SqL.of (s4 _ _ eo9)) ?_ ?_
   ·rintro i v σ H4 hi ⟨v9,rfl,s4⟩
    rw [List.getElem?_map] at hi
    cases zz:((rul rs n).filter (mB g n))[i]? with
    | none=>rw [zz] at hi; cases hi
    | some y =>
    rw [zz] at hi
    cases hi
    obtain ⟨ry,bY,my⟩:=gdm y (List.mem_of_getElem? zz)
    refine ⟨_,rfl,_,rfl,_,rfl,sh,n,rs,x,y,rfl,bs9.mono s4,F9.rows,rx,ry,n12,fun p5 xs5 H5 hp5 s5 e5 l5=>⟨p5,_,rfl,.inl (SqL.of e5),?_⟩⟩
    have s45:=s4.trans' s5
    refine ⟨_,rfl,_,rfl,_,rfl,r,_,_,_,rfl,rfl,SqT.of (s45 _ _ er9),(show _=some (V.str z) from rfl),_,rfl,sh,n,rs,z,y,rfl,bs9.mono s45,F9.rows,rz,ry,n12,fun p6 xs6 H6 hp6 s6 e6 l6=>⟨p6,_,rfl,.inl (SqL.of e6),_,_,rfl,rfl,rfl,_,rfl,?_⟩⟩
    have dd:=Near.dfc F0.rows rx bx st N bY my
    show if (!decide (V.int (xs5.length:Nat)=V.int ((xs3.length:Nat) + (xs6.length:Nat))))=true then _ else _
    have e:(V.int (xs5.length:Nat)=V.int ((xs3.length:Nat) + (xs6.length:Nat))):=by rw [l5,l9,l6,<- dd]; rfl
    rw [decide_eq_true e]
    exact iteF ⟨_,rfl,s45.trans' s6⟩
   ·rintro σ H4 ⟨v9,rfl,s4⟩
    have Ff:=F9.mono s4
    exact k H4 Ff.tb Ff.sp
end
end K63
namespace K63
open PySem L2
open PyProof.Rows (envOfC)
abbrev s_law:Stmt:=top 70
theorem pat_pat {n:Nat}{a:Nat->Nat}{d:Int}(h:∀ i,i < n->a i=121∨a i=110):Pat n (tx n (patC a d)):=⟨tx_len _ _,fun i hi=>by
 rw [ch_tx hi]
 unfold patC
 split
 ·have:=h i hi; omega
 ·exact .inr (.inr rfl)⟩
structure Fct (C Pf Pm Pn:Addr) (H:Hp) (p q pl t dx kp bt l:Addr) (n m i:Nat) (ms:List Int) (fr ps rs:List Str):Prop where
 tf:TabOk H Pf qF
 tm:TabOk H Pm qM
 tn:TabOk H Pn qN
 ep:H p=some (.lst (ms.map V.int))
 eq:H q=some (.lst (fr.map V.str))
 epl:H pl=some (.lst (ps.map V.str))
 el:H l=some (.lst (rs.map V.str))
 rows:∀ y∈rs,Row n y
 frows:∀ y∈fr,Row n y
 pats:∀ y∈ps,Pat n y
 p5:ps.length=5
 tab:TabAt C H t dx kp bt n m rs
 n1:1<=n
 n12:n<=12
 ms63:ms.length<=63
 fl:fr.length<=ms.length - 2
 mi:m<=3 * i
 ri:rs.length<=i
 lp:p≠l
 lq:q≠l
 lpl:pl≠l
 fm:Pm≠Pf
 fn:Pn≠Pf
 mn:Pn≠Pm
section
variable {C Pf Pm Pn:Addr}{H H':Hp}{p q pl t dx kp bt l:Addr}{n m i:Nat}{ms:List Int}{fr ps rs:List Str}
theorem Fct.mono (h:Fct C Pf Pm Pn H p q pl t dx kp bt l n m i ms fr ps rs) (s:Same H H'):Fct C Pf Pm Pn H' p q pl t dx kp bt l n m i ms fr ps rs :=
 { h with tf:=h.tf.same s,tm:=h.tm.same s,tn:=h.tn.same s,ep:=s _ _ h.ep,eq:=s _ _ h.eq,epl:=s _ _ h.epl,el:=s _ _ h.el,tab:=h.tab.mono s }
theorem Fct.keep (h:Fct C Pf Pm Pn H p q pl t dx kp bt l n m i ms fr ps rs) (t1:TabOk H' Pf qF) (t2:TabOk H' Pm qM) (t3:TabOk H' Pn qN) (s:∀ b o,(∀ ps,o≠.tbl ps)->H b=some o->H' b=some o):Fct C Pf Pm Pn H' p q pl t dx kp bt l n m i ms fr ps rs:=by
 refine { h with tf:=t1,tm:=t2,tn:=t3,ep:=s _ _ (fun ps z=>by cases z) h.ep,eq:=s _ _ (fun ps z=>by cases z) h.eq,epl:=s _ _ (fun ps z=>by cases z) h.epl,el:=s _ _ (fun ps z=>by cases z) h.el,tab:=?_ }
 obtain ⟨i,c,bvs,e1,e2,r⟩:=h.tab
 exact ⟨s _ _ (fun ps z=>by cases z) i,c,bvs,s _ _ (fun ps z=>by cases z) e1,s _ _ (fun ps z=>by cases z) e2,r⟩
theorem Fct.pf (h:Fct C Pf Pm Pn H p q pl t dx kp bt l n m i ms fr ps rs) (T:TabOk H' Pf qF) (s:SameP Pf H H'):Fct C Pf Pm Pn H' p q pl t dx kp bt l n m i ms fr ps rs :=
 h.keep T (TabOk.other h.tf h.tm h.fm s) (TabOk.other h.tf h.tn h.fn s) fun _ _ no e=>keepP h.tf s e no
theorem Fct.pm (h:Fct C Pf Pm Pn H p q pl t dx kp bt l n m i ms fr ps rs) (T:TabOk H' Pm qM) (s:SameP Pm H H'):Fct C Pf Pm Pn H' p q pl t dx kp bt l n m i ms fr ps rs :=
 h.keep (TabOk.other h.tm h.tf h.fm.symm s) T (TabOk.other h.tm h.tn h.mn s) fun _ _ no e=>keepP h.tm s e no
theorem Fct.pn (h:Fct C Pf Pm Pn H p q pl t dx kp bt l n m i ms fr ps rs) (T:TabOk H' Pn qN) (s:SameP Pn H H'):Fct C Pf Pm Pn H' p q pl t dx kp bt l n m i ms fr ps rs :=
 h.keep (TabOk.other h.tn h.tf h.fn.symm s) (TabOk.other h.tn h.tm h.mn.symm s) T fun _ _ no e=>keepP h.tn s e no
theorem Fct.off (h:Fct C Pf Pm Pn H p q pl t dx kp bt l n m i ms fr ps rs) (fm:∀ b o,b≠kp->b≠bt->b≠l->H b=some o->H' b=some o) {b:Addr}{xs:List V}(hb:b≠l) (e:H b=some (.lst xs)):H' b=some (.lst xs):=by
 obtain ⟨_,c,bvs,e1,e2,r⟩:=h.tab
 exact fm b _ (fun z=>by rw [z,e1] at e; cases e) (fun z=>by rw [z,e2] at e; cases e) hb e
theorem Fct.tabs {P:Addr}{q':Str}(h:Fct C Pf Pm Pn H p q pl t dx kp bt l n m i ms fr ps rs) (T:TabOk H P q') (fm:∀ b o,b≠kp->b≠bt->b≠l->H b=some o->H' b=some o):TabOk H' P q':=T.frame fun b o n1 n2 n3 e=>by
 obtain ⟨_,c,bvs,e1,e2,r⟩:=h.tab
 refine fm b o (fun z=>?_) (fun z=>?_) (fun z=>?_) e
 ·rw [z,e1] at e; exact n2 _ (Option.some.inj e).symm
 ·rw [z,e2] at e; exact n3 _ (Option.some.inj e).symm
 ·rw [z,h.el] at e; exact n1 _ (Option.some.inj e).symm
theorem Fct.chg {m':Nat}{rs':List Str}(h:Fct C Pf Pm Pn H p q pl t dx kp bt l n m i ms fr ps rs) (tab':TabAt C H' t dx kp bt n m' rs') (hm:m'<=m + 3) (el':H' l=some (.lst (rs'.map V.str))) (rows':∀ y∈rs',Row n y) (len':rs'.length<=rs.length + 1)
  (fm:∀ b o,b≠kp->b≠bt->b≠l->H b=some o->H' b=some o):Fct C Pf Pm Pn H' p q pl t dx kp bt l n m' (i + 1) ms fr ps rs':=by
 have:=h.mi
 have:=h.ri
 exact { h with tf:=h.tabs h.tf fm,tm:=h.tabs h.tm fm,tn:=h.tabs h.tn fm,ep:=h.off fm h.lp h.ep,eq:=h.off fm h.lq h.eq,epl:=h.off fm h.lpl h.epl,el:=el',rows:=rows',tab:=tab',mi:=by omega,ri:=by omega }
end
theorem rl12 {rs:List Str}{n:Nat}(h:n<=12):(rul rs n).length<=4096:=Nat.le_trans (rul_len rs n) (pow12 h)
theorem cut_sub (ps:List Str) (lo hi:Option Int):∃ ys:List Str,cutV (ps.map V.str) lo hi=ys.map V.str/\(∀ y∈ys,y∈ps)/\ys.length<=ps.length:=by
 unfold cutV
 rw [<- List.map_drop,<- List.map_take]
 exact ⟨_,rfl,fun y hy=>List.mem_of_mem_drop (List.mem_of_mem_take hy),by rw [List.length_take,List.length_drop]; omega⟩
theorem cut_three {ps:List Str}(h5:ps.length=5) {d:Int}(h0:0<=d) (h1:d < 5):∃ ys:List Str,cutV (ps.map V.str ++ ps.map V.str) (some d) (some (d + 3))=ys.map V.str/\(∀ y∈ys,y∈ps)/\ys.length=3:=by
 match ps,h5 with
 | [a,b,c,e,f],_ =>
 have h:d=0∨d=1∨d=2∨d=3∨d=4:=by omega
 rcases h with rfl | rfl | rfl | rfl | rfl
 ·exact ⟨[a,b,c],rfl,by simp,rfl⟩
 ·exact ⟨[b,c,e],rfl,by simp,rfl⟩
 ·exact ⟨[c,e,f],rfl,by simp,rfl⟩
 ·exact ⟨[e,f,a],rfl,by simp,rfl⟩
 ·exact ⟨[f,a,b],rfl,by simp,rfl⟩
def M0 (H:Hp):St->Hp->Prop:=fun σ H'=>∃(p q:Addr) (ms:List Int) (n:Nat) (fr:List Str),σ=[some (.ref p),some (.int n),some (.ref q),none,none,none,none,none,none,none,none,none]/\H' q=some (.lst (fr.map V.str))/\(∀ y∈fr,Row n y)/\fr.length<=ms.length - 2/\H' p=some (.lst (ms.map V.int))/\Same H H'/\1<=n/\n<=12/\ms.length<=63
section
variable {P:Program}{w:World}{K:PySem.W.Frag}{mg:Str->Option Value}{base:Heap}{C fi fa ft fy fm fc:Addr}{gi ga gt gy gm gc:FuncData}
abbrev N_lw:List Str:=["_law_script", "_law_n", "_law_fresh", "_law_patterns", "_law_k", "_law_drawn", "_law_made", "_law_rows_here", "_law_kept", "_law_pattern_here", "_law_three", "_law_row"]
abbrev P_lw:List Str:=["_law_script"]
theorem sc_lw:FnScope N_lw P_lw (defScope s_law):=⟨rfl,rfl,rfl,by decide +kernel,rfl,by decide +kernel,by decide +kernel⟩
def spLaw (K:PySem.W.Frag) (Pf Pm Pn:Addr):Sp:=fun vs H Q _=>∃(a:Addr) (ns:List Int),vs=[.ref a]/\SqL K H a (ns.map V.int)/\ns.length<=63/\H Pf=some (.tbl #[])/\H Pm=some (.tbl #[])/\H Pn=some (.tbl #[])/\∀ H',Q (.bl true) H'
theorem ok_law {Pf Pm Pn f fn fr fl fw fh fk fu fp fb f1 f2 f3:Addr}{fd gn gr gl gw gh gk gu gp gb g1 g2 g3:FuncData}(D:Df K mg "law" s_law ["_law_script"] f fd) (Dl:Df K mg "_law_cell" s_cell ["_law_script", "_law_k"] fl gl) (Dr:Df K mg "_law_draws" s_draws Pdr fr gr) (Dn:Df K mg "_law_count" s_count ["_law_cell_here"] fn gn)
  (Dw:Df K mg "_law_rows" s_rows Pss fw gw) (Gw:FnOk P w K mg base (CXE P w) 3 fw gw Pss (spRows K)) (Dh:Df K mg "_law_shift" s_shift P_sh fh gh) (Gh:FnOk P w K mg base (CXE P w) 5 fh gh P_sh (spShift C)) (Du:Df K mg "_law_rulings" s_rul Pru fu gu) (Gu:FnOk P w K mg base (CXE P w) 3 fu gu Pru (spRul K))
  (Dp:Df K mg "_law_pattern" s_pattern ["_law_row", "_law_number"] fp gp) (Db:Df K mg "_law_bits" s_bits Pb fb gb) (D1:Df K mg "_law_filled" s_lfilled P_lf f1 g1) (G1:FnOk P w K mg base (CXE P w) 9 f1 g1 P_lf (spLfilled C Pf)) (D2:Df K mg "_law_met" s_lmet P_me f2 g2) (G2:FnOk P w K mg base (CXE P w) 10 f2 g2 P_me (spLmet C Pm)) (D3:Df K mg "_law_near" s_lnear P_nr f3 g3) (G3:FnOk P w K mg base (CXE P w) 11 f3 g3 P_nr (spLnear C Pn))
  (nfm:Pm≠Pf) (nfn:Pn≠Pf) (nmn:Pn≠Pm) (T:Tb K mg C fi fa ft fy fm fc gi ga gt gy gm gc) (Dc:Df K mg "check_count" s_ccount ["questions"] fk gk) (B:Bt mg) (M:Gm mg):FnOk P w K mg base (CXE P w) 12 f fd ["_law_script"] (spLaw K Pf Pm Pn):=by
 refine D.F.okN sc_lw (fun vs H Q E h=>?_) (fun cdv A outer s H vs Q E hr h=>?_)
 ·obtain ⟨a,ns,rfl,_⟩:=h
  rfl
 obtain ⟨a,ns,rfl,hS,hl,hPf,hPm,hPn,k⟩:=h
 have hu:(A.deeper (envOfC "law" (defScope s_law) s.heap.objs.size f cdv)).units < cLine:=hr.units0
 refine ⟨_,pss_cons (ps_set (i:=0) sc_lw.nd rfl (Or.inl rfl) (pe_slice sl_list (pv 0) po_none (po_some pe_int)))
   (pss_cons (ps_set (i:=1) sc_lw.nd rfl (Or.inl rfl) (pe_fn Dn (ok_count Dn Dr B) (hr.mono (by decide)) passN (pa_cons (pe_fn Dl (ok_cell Dl B) (hr.mono (by decide)) passN (pa_cons (pv 0) (pa_cons pe_int pa_nil))) pa_nil)))
   (pss_cons (ps_set (i:=2) sc_lw.nd rfl (Or.inl rfl) (pe_fn Dw Gw (hr.mono (by decide)) passN (pa_cons (pe_slice sl_list (pv 0) (po_some pe_int) po_none) (pa_cons (pv 1) (pa_cons (pe_fn Dl (ok_cell Dl B) (hr.mono (by decide)) passN (pa_cons (pv 0) (pa_cons pe_int pa_nil))) pa_nil)))))
   (pss_cons (ps_cut (M0 H) (ps_if (pt_cmpR op_gt (pv 1) pe_int (nomark _)) (pss_one (ps_set (i:=2) sc_lw.nd rfl (Or.inl rfl) (pe_slice sl_list (pv 2) po_none (po_some pe_int)))) pss_nil))
   (pss_cons (ps_set (i:=3) sc_lw.nd rfl (Or.inl rfl) (pe_lst pa_nil))
   (pss_cons (ps_for PassesOwn.never rfl (pi_range1 (by rfl) B.range (pa_cons pe_int pa_nil)) (pg_name (i:=4) sc_lw.nd rfl (Or.inl rfl))
   (pss_cons (ps_set (i:=5) sc_lw.nd rfl (Or.inl rfl) (pe_fn Dr (ok_draws Dr B) (hr.mono (by decide)) passN (pa_cons (pe_op op_add (pe_op op_mul (pe_fn Dl (ok_cell Dl B) (hr.mono (by decide)) passN (pa_cons (pv 0) (pa_cons pe_int pa_nil))) (pe_op op_add (pv 4) pe_int)) (pe_op op_mul pe_int (pv 4))) (pa_cons (pe_lst (pa_cons pe_int (pa_cons pe_int pa_nil))) pa_nil))))
   (pss_one (ps_expr (pe_bm PySem.F.plainAttrs_list PySem.F.slot_list_append PySem.F.type_list_append mt_append (pv 3) (pa_cons (pe_fn Dp (ok_pattern Dp B) (hr.mono (by decide)) passN (pa_cons (pe_fn Db (ok_bits Db B) (hr.mono (by decide)) passN (pa_cons (pe_ix ix_list (pv 5) pe_int (fun _ _=>rfl)) (pa_cons (pv 1) pa_nil))) (pa_cons (pe_ix ix_list (pv 5) pe_int (fun _ _=>rfl)) pa_nil))) pa_nil))))))
   (pss_cons (ps_set (i:=6) sc_lw.nd rfl (Or.inl rfl) (pe_make T.mkC (ok_tinit T Dc M) (hr.mono (by decide)) (by rfl) T.mC T.bi .nil passN (pa_cons (pv 1) pa_nil)))
   (pss_cons (ps_set (i:=7) sc_lw.nd rfl (Or.inl rfl) (pe_lst pa_nil))
   (pss_cons (ps_for PassesOwn.never rfl (pi_range1 (by rfl) B.range (pa_cons (pe_callB call_len_seq (by rfl) B.len PySem.boot_len (pa_cons (pv 2) pa_nil)) pa_nil)) (pg_name (i:=4) sc_lw.nd rfl (Or.inl rfl))
   (pss_cons (ps_set (i:=5) sc_lw.nd rfl (Or.inl rfl) (pe_fn Dr (ok_draws Dr B) (hr.mono (by decide)) passN (pa_cons (pe_op op_add (pe_ix ix_list (pv 0) (pe_op op_add pe_int (pv 4)) (fun _ _=>rfl)) pe_int) (pa_cons (pe_lst (pa_cons pe_int (pa_cons pe_int (pa_cons pe_int (pa_cons pe_int (pa_cons pe_int pa_nil)))))) pa_nil))))
   (pss_cons (ps_expr (pe_fn Dh Gh (hr.mono (by decide)) passN (pa_cons (pv 6) (pa_cons (pv 7) (pa_cons (pe_ix ix_list (pv 2) (pv 4) (fun _ _=>rfl)) (pa_cons (pv 5) pa_nil))))))
   (pss_cons (ps_set (i:=8) sc_lw.nd rfl (Or.inl rfl) (pe_fn Du Gu (hr.mono (by decide)) passN (pa_cons (pv 7) (pa_cons (pv 1) pa_nil))))
   (pss_cons (ps_for PassesOwn.never rfl (pi_list (pe_slice sl_list (pv 3) po_none (po_some (pe_op op_add pe_int (pe_ix ix_list (pv 5) pe_int (fun _ _=>rfl)))))) (pg_name (i:=9) sc_lw.nd rfl (Or.inl rfl))
   (pss_one (ps_if (pt_not (pt_val (pe_fn D1 G1 (hr.mono (by decide)) passN (pa_cons (pv 6) (pa_cons (pv 7) (pa_cons (pv 8) (pa_cons (pv 9) pa_nil))))))) (pss_one (ps_ret pe_bl)) pss_nil)))
   (pss_cons (ps_set (i:=10) sc_lw.nd rfl (Or.inl rfl) (pe_slice sl_list (pe_op op_cat (pv 3) (pv 3)) (po_some (pe_ix ix_list (pv 5) pe_int (fun _ _=>rfl))) (po_some (pe_op op_add (pe_ix ix_list (pv 5) pe_int (fun _ _=>rfl)) pe_int))))
   (pss_cons (ps_if (pt_not (pt_val (pe_fn D2 G2 (hr.mono (by decide)) passN (pa_cons (pv 6) (pa_cons (pv 7) (pa_cons (pv 8) (pa_cons (pv 10) pa_nil))))))) (pss_one (ps_ret pe_bl)) pss_nil)
   (pss_one (ps_if (pt_cmpR (op_neNil hu) (pv 7) (pe_lst pa_nil) (nomark _)) (pss_cons (ps_set (i:=11) sc_lw.nd rfl (Or.inl rfl) (pe_ix ix_list (pv 8) (pe_op op_mod (pe_ix ix_list (pv 5) pe_int (fun _ _=>rfl)) (pe_callB call_len_seq (by rfl) B.len PySem.boot_len (pa_cons (pv 8) pa_nil))) (fun _ _=>rfl)))
   (pss_one (ps_if (pt_not (pt_val (pe_fn D3 G3 (hr.mono (by decide)) passN (pa_cons (pv 6) (pa_cons (pv 7) (pa_cons (pv 8) (pa_cons (pv 11) (pa_cons (pe_ix ix_list (pv 3) (pe_ix ix_list (pv 5) pe_int (fun _ _=>rfl)) (fun _ _=>rfl)) pa_nil)))))))) (pss_one (ps_ret pe_bl)) pss_nil))) pss_nil)))))))))
   (pss_one (ps_ret pe_bl)))))))))),?_⟩
 refine ⟨_,rfl,_,rfl,a,_,rfl,hS,fun p hp=>?_⟩
 obtain ⟨ms,em,lm⟩:∃ ys:List Int,cutV (ns.map V.int) none (some 63)=ys.map V.int/\ys.length<=ns.length:=by
  unfold cutV
  rw [<- List.map_drop,<- List.map_take]
  refine ⟨_,rfl,?_⟩
  rw [List.length_take,List.length_drop]
  omega
 rw [em]
 have s1:=Same.new (o:=.lst (ms.map V.int)) hp
 refine ⟨_,rfl,p,ms,0,rfl,SqL.of upd_same,_,rfl,fun n H2 n1 n12 s2=>?_⟩
 have e2:=s2 p _ upd_same
 have s02:=s1.trans' s2
 refine ⟨_,rfl,_,rfl,p,_,rfl,SqL.of e2,fun lc hlc=>?_⟩
 have ex:cutV (ms.map V.int) (some 2) none=(ms.drop 2).map V.int:=cut_drop ms 2 (by omega)
 rw [ex]
 have s23:=Same.new (o:=.lst ((ms.drop 2).map V.int)) hlc
 refine ⟨_,rfl,_,rfl,p,ms,1,rfl,SqL.of (s23 p _ e2),?_⟩
 have lx:(ms.drop 2).length=ms.length - 2:=List.length_drop
 refine ⟨lc,ms.drop 2,n,_,rfl,SqL.of upd_same,by omega,n1,n12,fun q H3 r hr' s3 hq e3=>?_⟩
 have p3:=s3 p _ (s23 p _ e2)
 have s03:=s02.trans' (s23.trans' s3)
 obtain ⟨fr,ef,hfr,flr⟩:∃ fr:List Str,((List.range (ms.drop 2).length).map fun i=>V.str (tx n (r i)))=fr.map V.str/\(∀ y∈fr,Row n y)/\fr.length=ms.length - 2:=by
  refine ⟨(List.range (ms.drop 2).length).map fun i=>tx n (r i),by rw [List.map_map]; rfl,fun y hy=>?_,by rw [List.length_map,List.length_range,lx]⟩
  obtain ⟨j,_,rfl⟩:=List.mem_map.mp hy
  exact tx_row (hr' j)
 rw [ef] at e3
 refine ⟨?_,?_⟩
 ·refine ⟨_,rfl,_,_,rfl,rfl,_,rfl,ite2 (fun _=>?_) (fun _=>?_)⟩
  ·obtain ⟨ys,ey,hy,yl⟩:=cut_sub fr none (some 9)
   refine ⟨_,rfl,_,rfl,q,_,rfl,SqL.of e3,fun q2 hq2=>?_⟩
   rw [ey]
   have sq:=Same.new (o:=.lst (ys.map V.str)) hq2
   exact ⟨p,q2,ms,n,ys,rfl,upd_same,fun y h=>hfr y (hy y h),by omega,sq _ _ p3,s03.trans' sq,n1,n12,by omega⟩
  ·exact ⟨p,q,ms,n,fr,rfl,e3,hfr,by omega,p3,s03,n1,n12,by omega⟩
 clear hq e3 ef hfr flr
 rintro σ H4 ⟨p,q,ms,n,fr,rfl,q4,hfr,fl,p4,s04,n1,n12,ml⟩
 refine ⟨Nat.zero_le _,fun pl hpl=>?_⟩
 have s45:=Same.new (o:=.lst []) hpl
 refine ⟨_,rfl,by decide,by decide,?_⟩
 refine for_range (n:=5) (fun i σ H6=>∃ v4 v5 ps,σ=[some (.ref p),some (.int n),some (.ref q),some (.ref pl),v4,v5,none,none,none,none,none,none]/\Same H4 H6/\H6 pl=some (.lst (ps.map V.str))/\(∀ y∈ps,Pat n y)/\ps.length=i) ⟨none,none,[],rfl,s45,upd_same,(fun _ h=>by cases h),rfl⟩ ?_ ?_
 ·rintro i σ H6 hi ⟨v4,v5,ps,rfl,s46,e6,hps,pl6⟩
  refine ⟨_,rfl,p,ms,1,rfl,SqL.of (s46 _ _ p4),_,rfl,_,_,rfl,rfl,_,_,rfl,rfl,.inr ⟨by omega,by omega⟩,_,rfl,_,_,rfl,rfl,.inl ⟨by decide,by decide⟩,_,_,rfl,rfl,len_le (show 2<=100 by decide),fun t' ht'=>?_⟩
  refine ⟨_,t',[4096,531441],rfl,SqL.of upd_same,by decide,by decide,fun u H7 s7 hu' e7=>?_⟩
  obtain ⟨d0,d1,ed⟩:∃ d0 d1:Int,(drawsM (cellM ms 1 * (0 + (i:Int) + 1) + 7 * (0 + (i:Int))) [4096,531441]).map V.int=[.int d0,.int d1]:=⟨_,_,rfl⟩
  rw [ed] at e7
  have s67:Same H6 H7:=(Same.new ht').trans' s7
  have pl7:=s67 _ _ e6
  refine ⟨_,rfl,.inl ⟨rfl,_,SqL.of pl7⟩,_,rfl,u,_,_,_,rfl,rfl,SqL.of e7,(show _=some (V.int d0) from rfl),_,rfl,d0,n,rfl,by omega,_,rfl,u,_,_,_,rfl,rfl,SqL.of e7,(show _=some (V.int d1) from rfl),bitC d0,n,d1,rfl,by omega,?_⟩
  refine ⟨pl,_,_,rfl,rfl,pl7,by rw [List.length_map]; exact Nat.lt_of_le_of_lt (show _<=100 by omega) (by decide),_,_,ps ++ [tx n (patC (bitC d0) d1)],rfl,Same.grow hpl (s46.trans' s67),?_,fun y hy=>?_,by rw [List.length_append]; show ps.length + 1=i + 1; omega⟩
  ·rw [upd_same,List.map_append]; rfl
  ·rcases List.mem_append.mp hy with hy | hy
   ·exact hps y hy
   ·rw [List.mem_singleton.mp hy]; exact pat_pat (fun i hi=>bit_bin d0 i)
 rintro σ H6 ⟨v4,v5,ps,rfl,s46,e6,hps,pl6⟩
 have s06:=s04.trans' s46
 have p6:=s46 _ _ p4
 have q6:=s46 _ _ q4
 refine ⟨_,rfl,fun t dx ht hdx htd=>?_⟩
 refine ⟨t,dx,n,rfl,upd_same,n1,n12,fun H7 kp bt tab7 hk7 hb7 keep7=>⟨rfl,?_⟩⟩
 have s67:Same H6 H7:=fun b o e=>keep7 b o (fun z=>by rw [z,ht] at e; cases e) (by
  rw [upd_ne (fun z=>by rw [z,ht] at e; cases e),upd_ne (fun z=>by rw [z,hdx] at e; cases e)]
  exact e)
 refine ⟨Nat.zero_le _,fun l hl7=>?_⟩
 have s78:=Same.new (o:=.lst []) hl7
 have s68:=s67.trans' s78
 have s08:=s06.trans' s68
 have el8:upd H7 l (.lst []) l=some (.lst (([]:List Str).map V.str)):=upd_same
 have T0:∀{P:Addr} {q':Str},H P=some (.tbl #[])->TabOk (upd H7 l (.lst [])) P q':=fun h=>⟨#[],s08 _ _ h,True.intro,fun pos cv z=>by cases z⟩
 have F8:Fct C Pf Pm Pn (upd H7 l (.lst [])) p q pl t dx kp bt l n 0 0 ms fr ps []:=⟨T0 hPf,T0 hPm,T0 hPn,s68 _ _ p6,s68 _ _ q6,s68 _ _ e6,el8,(fun _ h=>by cases h),hfr,hps,pl6,tab7.mono s78,n1,n12,ml,fl,Nat.zero_le _,Nat.zero_le _,
  (fun z=>by rw [<- z,s67 _ _ p6] at hl7; cases hl7),(fun z=>by rw [<- z,s67 _ _ q6] at hl7; cases hl7),(fun z=>by rw [<- z,s67 _ _ e6] at hl7; cases hl7),nfm,nfn,nmn⟩
 generalize upd H7 l (.lst [])=H8 at *
 refine ⟨_,rfl,q,_,rfl,.inl (SqL.of F8.eq),_,rfl,?_,?_,?_⟩
 ·omega
 ·rw [List.length_map]; omega
 have en:(((fr.map V.str).length:Nat):Int).toNat=fr.length:=by rw [List.length_map]; omega
 rw [en]
 refine for_range (fun i σ H9=>∃ v4 v5 v8 v9 v10 v11 m rs,σ=[some (.ref p),some (.int n),some (.ref q),some (.ref pl),v4,v5,some (.ref t),some (.ref l),v8,v9,v10,v11]/\Fct C Pf Pm Pn H9 p q pl t dx kp bt l n m i ms fr ps rs) ⟨_,_,_,_,_,_,0,[],rfl,F8⟩ ?_ (fun σ H9 _=>k H9)
 rintro i σ H9 hi ⟨v4,v5,v8,v9,v10,v11,m,rs,rfl,F9⟩
 rw [Int.zero_add]
 have il:2 + i < ms.length:=by omega
 have at1:atI (ms.map V.int) (2 + (i:Int))=some (.int ms[2 + i]):=by
  have e:(2:Int) + (i:Int)=((2 + i:Nat):Int):=by omega
  rw [e]
  refine atI_nat ?_
  rw [List.getElem?_map,List.getElem?_eq_getElem il]
  rfl
 have at2:atI (fr.map V.str) (i:Int)=some (.str fr[i]):=by
  refine atI_nat ?_
  rw [List.getElem?_map,List.getElem?_eq_getElem hi]
  rfl
 have mi:=F9.mi
 have ri:=F9.ri
 refine ⟨_,rfl,_,rfl,_,_,rfl,rfl,p,_,_,_,rfl,rfl,SqL.of F9.ep,at1,_,_,rfl,rfl,len_le (show 5<=100 by decide),fun t' ht'=>?_⟩
 refine ⟨_,t',[7,67,5,3,71],rfl,SqL.of upd_same,by decide,by decide,fun u HA sA hu' eA=>?_⟩
 obtain ⟨d0,d1,d2,d3,d4,ed,h20,h21⟩:∃ d0 d1 d2 d3 d4:Int,(drawsM (ms[2 + i] + 5) [7,67,5,3,71]).map V.int=[.int d0,.int d1,.int d2,.int d3,.int d4]/\0<=d2/\d2 < 5:=⟨_,_,_,_,_,rfl,Int.emod_nonneg _ (by decide),Int.emod_lt_of_pos _ (by decide)⟩
 rw [ed] at eA
 have s9A:Same H9 HA:=(Same.new ht').trans' sA
 have ul:u≠l:=fun z=>by
  have:=none_of_upd hu'
  rw [z,F9.el] at this
  cases this
 have FA:=F9.mono s9A
 refine ⟨_,rfl,_,rfl,_,rfl,_,rfl,q,_,_,_,rfl,rfl,SqL.of FA.eq,at2,_,rfl,?_⟩
 refine ⟨t,dx,kp,bt,l,u,n,m,rs,fr[i],d0,d1,d2,d3,d4,rfl,FA.tab,FA.el,FA.rows,FA.frows _ (List.getElem_mem hi),eA,n1,n12,by omega,by omega,fun HB rs' m' tabB mB' lB rowsB lenB keepB=>?_⟩
 have FB:=FA.chg tabB mB' lB rowsB lenB keepB
 have uB:=FA.off keepB ul eA
 clear FA F9 keepB tabB lB
 refine ⟨_,rfl,_,rfl,l,n,rs',rfl,SqL.of FB.el,rowsB,n12,fun kt HC sC ek=>?_⟩
 have FC:=FB.mono sC
 have uC:=sC _ _ uB
 obtain ⟨ys,ey,hys,yl⟩:=cut_sub ps none (some (2 + d3))
 have p5:=FC.p5
 refine ⟨_,rfl,_,rfl,u,_,_,_,rfl,rfl,SqL.of uC,(show _=some (V.int d3) from rfl),_,_,rfl,rfl,_,rfl,pl,_,rfl,SqL.of FC.epl,fun sl hsl=>?_⟩
 rw [ey]
 have sD:=Same.new (o:=.lst (ys.map V.str)) hsl
 have FD:=FC.mono sD
 have uD:=sD _ _ uC
 have kD:=sD _ _ ek
 have eD:upd HC sl (.lst (ys.map V.str)) sl=some (.lst (ys.map V.str)):=upd_same
 generalize upd HC sl (.lst (ys.map V.str))=HD at *
 refine ⟨sl,rfl,⟨_,SqL.of eD⟩,?_⟩
 refine for_list (K:=K) (a:=sl) (xs:=ys.map V.str) (fun j σ H4=>∃ v9,σ=[some (.ref p),some (.int n),some (.ref q),some (.ref pl),some (.int (i:Nat)),some (.ref u),some (.ref t),some (.ref l),some (.ref kt),v9,v10,v11]/\Fct C Pf Pm Pn H4 p q pl t dx kp bt l n m' (i + 1) ms fr ps rs'/\H4 u=some (.lst [.int d0,.int d1,.int d2,.int d3,.int d4])/\H4 kt=some (.lst ((rul rs' n).map V.str))/\H4 sl=some (.lst (ys.map V.str))) ⟨_,rfl,FD,uD,kD,eD⟩ (fun j σ H4 _ ⟨_,_,_,_,_,e4⟩=>SqL.of e4) ?_ ?_
 ·rintro j v σ H4 hj ⟨v9,rfl,F4,u4,k4,e4⟩
  rw [List.getElem?_map] at hj
  cases zz:ys[j]? with
  | none=>rw [zz] at hj; cases hj
  | some y =>
  rw [zz] at hj
  cases hj
  have py:=F4.pats y (hys y (List.mem_of_getElem? zz))
  refine ⟨_,rfl,_,rfl,_,rfl,_,rfl,t,dx,kp,bt,l,kt,n,m',rs',y,rfl,⟨F4.tf,(fun b o _ e=>e),F4.tab,F4.el,k4,F4.rows,n1,n12,rl12 n12⟩,py,fun H5 T5 s5=>⟨_,rfl,iteF ?_⟩⟩
  exact ⟨_,rfl,F4.pf T5 s5,keepP F4.tf s5 u4 (fun ps z=>by cases z),keepP F4.tf s5 k4 (fun ps z=>by cases z),keepP F4.tf s5 e4 (fun ps z=>by cases z)⟩
 rintro σ HE ⟨v9,rfl,FE,uE,kE,_⟩
 clear FD uD kD eD FC uC
 refine ⟨_,rfl,_,rfl,pl,pl,_,_,rfl,rfl,FE.epl,FE.epl,?_,fun g hg=>?_⟩
 ·rw [List.length_map]
  exact len_le (show ps.length + ps.length<=100 by omega)
 have sg:=Same.new (o:=.lst (ps.map V.str ++ ps.map V.str)) hg
 obtain ⟨ts,et,hts,tl⟩:=cut_three p5 h20 h21
 have uG:=sg _ _ uE
 refine ⟨_,rfl,u,_,_,_,rfl,rfl,SqL.of uG,(show _=some (V.int d2) from rfl),_,rfl,_,rfl,u,_,_,_,rfl,rfl,SqL.of uG,(show _=some (V.int d2) from rfl),_,_,rfl,rfl,_,rfl,g,_,rfl,SqL.of upd_same,fun th hth=>?_⟩
 rw [et]
 have sh:=Same.new (o:=.lst (ts.map V.str)) hth
 have sgh:=sg.trans' sh
 have FF:=FE.mono sgh
 have uF:=sgh _ _ uE
 have kF:=sgh _ _ kE
 have eF:upd (upd HE g (.lst (ps.map V.str ++ ps.map V.str))) th (.lst (ts.map V.str)) th=some (.lst (ts.map V.str)):=upd_same
 generalize upd (upd HE g (.lst (ps.map V.str ++ ps.map V.str))) th (.lst (ts.map V.str))=HF at *
 clear FE uE kE uG sg sh sgh
 refine ⟨_,rfl,_,rfl,_,rfl,_,rfl,t,dx,kp,bt,l,kt,th,n,m',rs',ts,rfl,⟨FF.tm,(fun b o _ e=>e),FF.tab,FF.el,kF,FF.rows,n1,n12,rl12 n12⟩,eF,tl,(fun y hy=>FF.pats y (hts y hy)),fun HG TG sG=>⟨_,rfl,iteF ?_⟩⟩
 have FG:=FF.pm TG sG
 have uG:=keepP FF.tm sG uF (fun ps z=>by cases z)
 have kG:=keepP FF.tm sG kF (fun ps z=>by cases z)
 clear FF uF kF
 refine ⟨_,rfl,Nat.zero_le _,fun pe hpe=>?_⟩
 have se:=Same.new (o:=.lst []) hpe
 have FH:=FG.mono se
 have uH:=se _ _ uG
 have kH:=se _ _ kG
 have eH:upd HG pe (.lst []) pe=some (.lst []):=upd_same
 generalize upd HG pe (.lst [])=HH at *
 clear FG uG kG
 refine ⟨l,pe,_,rfl,rfl,SqL.of FH.el,SqL.of eH,_,rfl,ite2 (fun c=>?_) (fun c=>?_)⟩
 ·have rp:0 < rs'.length:=by
   cases rs' with
   | nil=>exact absurd c (by decide)
   | cons a b=>exact Nat.succ_pos _
  obtain ⟨y0,hy0⟩:=List.exists_mem_of_length_pos rp
  have kp0:0 < (rul rs' n).length:=List.length_pos_of_mem (rul_mem.mpr ⟨FH.rows _ hy0,borne_mem hy0⟩)
  obtain ⟨z,hz,ez⟩:=pick_mod (L:=rul rs' n) kp0 d4
  obtain ⟨rz,bz⟩:=rul_mem.mp hz
  obtain ⟨g2,hg2,eg2⟩:∃ y∈ps,atI (ps.map V.str) d2=some (.str y):=by
   obtain ⟨y,hy,e⟩:=pick_mod (L:=ps) (by omega) d2
   refine ⟨y,hy,?_⟩
   rw [List.length_map,p5,show ((5:Nat):Int)=5 from rfl,Int.emod_eq_of_lt h20 h21] at e
   exact e
  refine ⟨_,rfl,_,rfl,u,_,_,_,rfl,rfl,SqL.of uH,(show _=some (V.int d4) from rfl),_,rfl,kt,_,rfl,.inl (SqL.of kH),_,_,rfl,rfl,(by rw [List.length_map]; omega),kt,_,_,_,rfl,rfl,SqL.of kH,ez,?_⟩
  refine ⟨_,rfl,_,rfl,_,rfl,_,rfl,_,rfl,_,rfl,u,_,_,_,rfl,rfl,SqL.of uH,(show _=some (V.int d2) from rfl),pl,_,_,_,rfl,rfl,SqL.of FH.epl,eg2,?_⟩
  refine ⟨t,dx,kp,bt,l,kt,n,m',rs',z,g2,rfl,⟨FH.tn,(fun b o _ e=>e),FH.tab,FH.el,kH,FH.rows,n1,n12,rl12 n12⟩,rz,bz,FH.pats _ hg2,fun HI TI sI=>⟨_,rfl,iteF ?_⟩⟩
  exact ⟨_,_,_,_,_,_,m',rs',rfl,FH.pn TI sI⟩
 ·exact ⟨_,_,_,_,_,_,m',rs',rfl,FH⟩
end
end K63
namespace K63
open PySem L2
theorem all_mk {l:PySem.W.OpenLaw}{w:World}{K:PySem.W.Frag}{h:Heap}{mg:Str->Option Value}{fa cc Pt cx2 P2 cx3 P3 CT f1 f2 f3 f4 f5 f6 f7 f8 f9 f10 f11 f12 f13 f14 f15 f16 f17 f18 f19 f20 f21 f22 f23 f24 f25 f26 f27 f28 f29 f30 f31 f32 f33 f34 f35 f36 f37 f38 f39 f40 f41 f42 f43 f44 f45 f46 f47 f48 f49 f50 mf0 mf1 mf2 mf3 mf4 mf5:Addr}(X:K.In h) (G:h.Ns mainGlobals mg) (hfa:mg "law" = some (.ref fa))
  {od1 an1 od2 an2 od3 an3 od4 an4 od5 an5 od6 an6 od7 an7 od8 an8 od9 an9 od10 an10 od11 an11 od12 an12 od13 an13 od14 an14 od15 an15 od16 an16 od17 an17 od18 an18 od19 an19 od20 an20 od21 an21 od22 an22 od23 an23 od24 an24 od25 an25 od26 an26 od27 an27 od28 an28 od29 an29 od30 an30 od31 an31 od32 an32 od33 an33 od34 an34 od35 an35 od36 an36 od37 an37 od38 an38 od39 an39 od40 an40 od41 an41 od42 an42 od43 an43 od44 an44 od45 an45 od46 an46 od47 an47 od48 an48 od49 an49 od50 an50 mo0 ma0 mo1 ma1 mo2 ma2 mo3 ma3 mo4 ma4 mo5 ma5:Option Addr} {sl1 sl2 sl3 sl4 sl5 sl6 sl7 sl8 sl9 sl10 sl11 sl12 sl13 sl14 sl15 sl16 sl17 sl18 sl19 sl20 sl21 sl22 sl23 sl24 sl25 sl26 sl27 sl28 sl29 sl30 sl31 sl32 sl33 sl34 sl35 sl36 sl37 sl38 sl39 sl40 sl41 sl42 sl43 sl44 sl45 sl46 sl47 sl48 sl49 sl50 ms0 ms1 ms2 ms3 ms4 ms5:Array (Option Value)} {oc1 kV1 dc1 pm1 cd1 ct1 oc2 kV2 dc2 pm2 cd2 ct2 oc3 kV3 dc3 pm3 cd3 ct3 oc4 kV4 dc4 pm4 cd4 ct4 oc5 kV5 dc5 pm5 cd5 ct5 oc6 kV6 dc6 pm6 cd6 ct6 oc7 kV7 dc7 pm7 cd7 ct7 oc8 kV8 dc8 pm8 cd8 ct8 oc9 kV9 dc9 pm9 cd9 ct9 oc10 kV10 dc10 pm10 cd10 ct10 oc11 kV11 dc11 pm11 cd11 ct11 oc12 kV12 dc12 pm12 cd12 ct12 oc13 kV13 dc13 pm13 cd13 ct13 oc14 kV14 dc14 pm14 cd14 ct14 oc15 kV15 dc15 pm15 cd15 ct15 oc16 kV16 dc16 pm16 cd16 ct16 oc17 kV17 dc17 pm17 cd17 ct17 oc18 kV18 dc18 pm18 cd18 ct18 oc19 kV19 dc19 pm19 cd19 ct19 oc20 kV20 dc20 pm20 cd20 ct20 oc21 kV21 dc21 pm21 cd21 ct21 oc22 kV22 dc22 pm22 cd22 ct22 oc23 kV23 dc23 pm23 cd23 ct23 oc24 kV24 dc24 pm24 cd24 ct24 oc25 kV25 dc25 pm25 cd25 ct25 oc26 kV26 dc26 pm26 cd26 ct26 oc27 kV27 dc27 pm27 cd27 ct27 oc28 kV28 dc28 pm28 cd28 ct28 oc29 kV29 dc29 pm29 cd29 ct29 oc30 kV30 dc30 pm30 cd30 ct30 oc31 kV31 dc31 pm31 cd31 ct31 oc32 kV32 dc32 pm32 cd32 ct32 oc33 kV33 dc33 pm33 cd33 ct33 oc34 kV34 dc34 pm34 cd34 ct34 oc35 kV35 dc35 pm35 cd35 ct35 oc36 kV36 dc36 pm36 cd36 ct36 oc37 kV37 dc37 pm37 cd37 ct37 oc38 kV38 dc38 pm38 cd38 ct38 oc39 kV39 dc39 pm39 cd39 ct39 oc40 kV40 dc40 pm40 cd40 ct40 oc41 kV41 dc41 pm41 cd41 ct41 oc42 kV42 dc42 pm42 cd42 ct42 oc43 kV43 dc43 pm43 cd43 ct43 oc44 kV44 dc44 pm44 cd44 ct44 oc45 kV45 dc45 pm45 cd45 ct45 oc46 kV46 dc46 pm46 cd46 ct46 oc47 kV47 dc47 pm47 ct47 oc48 kV48 dc48 pm48 ct48 oc49 kV49 dc49 pm49 ct49 oc50 kV50 dc50 pm50 cd50 ct50 mq0 mk0 md0 mp0 mc0 mt0 mq1 mk1 md1 mp1 mc1 mt1 mq2 mk2 md2 mp2 mc2 mt2 mq3 mk3 md3 mp3 mc3 mt3 mq4 mk4 md4 mp4 mc4 mt4 mq5 mk5 md5 mp5 mc5 mt5:Value}
  {oZ:Value} {dZ:Option Addr} {vZ:Array Value} {sZ:Array (Option Value)} (lZ:K.lookup cc=some ⟨oZ,dZ,.fields vZ,sZ⟩) (hZ:vZ[11]? = some (.ref Pt)) (hH:PySem.W.codeHdIn K cc Pt=true)
  {oY2:Value} {dY2:Option Addr} {vY2:Array Value} {sY2:Array (Option Value)} (lY2:K.lookup cx2=some ⟨oY2,dY2,.fields vY2,sY2⟩) (hY2:vY2[11]? = some (.ref P2)) (hI2:PySem.W.codeHdIn K cx2 P2=true)
  {oY3:Value} {dY3:Option Addr} {vY3:Array Value} {sY3:Array (Option Value)} (lY3:K.lookup cx3=some ⟨oY3,dY3,.fields vY3,sY3⟩) (hY3:vY3[11]? = some (.ref P3)) (hI3:PySem.W.codeHdIn K cx3 P3=true)
  (hN_Pt_P2:P2≠Pt)
  (hN_Pt_P3:P3≠Pt)
  (hN_P2_P3:P3≠P2)
  (a1:PySem.W.nsIn K mainGlobals "check_count" = some (some (.ref f1))) (l1:K.lookup f1=some ⟨oc1,od1,.func (PySem.W.fnOf "check_count" "check_count" (defArgs s_ccount) (defBody s_ccount) (defScope s_ccount) .none kV1 dc1 pm1 an1 cd1 ct1),sl1⟩) (c1:PySem.W.codeIn K cd1 "check_count" = true) (k1:PySem.W.keepIn K (.ref f1)=true)
  (a2:PySem.W.nsIn K mainGlobals "check_question" = some (some (.ref f2))) (l2:K.lookup f2=some ⟨oc2,od2,.func (PySem.W.fnOf "check_question" "check_question" (defArgs s_cquest) (defBody s_cquest) (defScope s_cquest) .none kV2 dc2 pm2 an2 cd2 ct2),sl2⟩) (c2:PySem.W.codeIn K cd2 "check_question" = true) (k2:PySem.W.keepIn K (.ref f2)=true)
  (a3:PySem.W.nsIn K mainGlobals "check_sign" = some (some (.ref f3))) (l3:K.lookup f3=some ⟨oc3,od3,.func (PySem.W.fnOf "check_sign" "check_sign" (defArgs s_csign) (defBody s_csign) (defScope s_csign) .none kV3 dc3 pm3 an3 cd3 ct3),sl3⟩) (c3:PySem.W.codeIn K cd3 "check_sign" = true) (k3:PySem.W.keepIn K (.ref f3)=true)
  (a4:PySem.W.nsIn K mainGlobals "check_answers" = some (some (.ref f4))) (l4:K.lookup f4=some ⟨oc4,od4,.func (PySem.W.fnOf "check_answers" "check_answers" (defArgs s_cans) (defBody s_cans) (defScope s_cans) .none kV4 dc4 pm4 an4 cd4 ct4),sl4⟩) (c4:PySem.W.codeIn K cd4 "check_answers" = true) (k4:PySem.W.keepIn K (.ref f4)=true)
  (a5:PySem.W.nsIn K mainGlobals "check_row" = some (some (.ref f5))) (l5:K.lookup f5=some ⟨oc5,od5,.func (PySem.W.fnOf "check_row" "check_row" (defArgs s_crow) (defBody s_crow) (defScope s_crow) .none kV5 dc5 pm5 an5 cd5 ct5),sl5⟩) (c5:PySem.W.codeIn K cd5 "check_row" = true) (k5:PySem.W.keepIn K (.ref f5)=true)
  (a6:PySem.W.nsIn K mainGlobals "check_pattern" = some (some (.ref f6))) (l6:K.lookup f6=some ⟨oc6,od6,.func (PySem.W.fnOf "check_pattern" "check_pattern" (defArgs s_cpat) (defBody s_cpat) (defScope s_cpat) .none kV6 dc6 pm6 an6 cd6 ct6),sl6⟩) (c6:PySem.W.codeIn K cd6 "check_pattern" = true) (k6:PySem.W.keepIn K (.ref f6)=true)
  (a7:PySem.W.nsIn K mainGlobals "other" = some (some (.ref f7))) (l7:K.lookup f7=some ⟨oc7,od7,.func (PySem.W.fnOf "other" "other" (defArgs s_other) (defBody s_other) (defScope s_other) .none kV7 dc7 pm7 an7 cd7 ct7),sl7⟩) (c7:PySem.W.codeIn K cd7 "other" = true) (k7:PySem.W.keepIn K (.ref f7)=true)
  (a8:PySem.W.nsIn K mainGlobals "is_row" = some (some (.ref f8))) (l8:K.lookup f8=some ⟨oc8,od8,.func (PySem.W.fnOf "is_row" "is_row" (defArgs s_isrow) (defBody s_isrow) (defScope s_isrow) .none kV8 dc8 pm8 an8 cd8 ct8),sl8⟩) (c8:PySem.W.codeIn K cd8 "is_row" = true) (k8:PySem.W.keepIn K (.ref f8)=true)
  (a9:PySem.W.nsIn K mainGlobals "is_pattern" = some (some (.ref f9))) (l9:K.lookup f9=some ⟨oc9,od9,.func (PySem.W.fnOf "is_pattern" "is_pattern" (defArgs s_ispat) (defBody s_ispat) (defScope s_ispat) .none kV9 dc9 pm9 an9 cd9 ct9),sl9⟩) (c9:PySem.W.codeIn K cd9 "is_pattern" = true) (k9:PySem.W.keepIn K (.ref f9)=true)
  (a10:PySem.W.nsIn K mainGlobals "only_of" = some (some (.ref f10))) (l10:K.lookup f10=some ⟨oc10,od10,.func (PySem.W.fnOf "only_of" "only_of" (defArgs s_only) (defBody s_only) (defScope s_only) .none kV10 dc10 pm10 an10 cd10 ct10),sl10⟩) (c10:PySem.W.codeIn K cd10 "only_of" = true) (k10:PySem.W.keepIn K (.ref f10)=true)
  (a11:PySem.W.nsIn K mainGlobals "turned" = some (some (.ref f11))) (l11:K.lookup f11=some ⟨oc11,od11,.func (PySem.W.fnOf "turned" "turned" (defArgs s_turned) (defBody s_turned) (defScope s_turned) .none kV11 dc11 pm11 an11 cd11 ct11),sl11⟩) (c11:PySem.W.codeIn K cd11 "turned" = true) (k11:PySem.W.keepIn K (.ref f11)=true)
  (a12:PySem.W.nsIn K mainGlobals "with_answer" = some (some (.ref f12))) (l12:K.lookup f12=some ⟨oc12,od12,.func (PySem.W.fnOf "with_answer" "with_answer" (defArgs s_with) (defBody s_with) (defScope s_with) .none kV12 dc12 pm12 an12 cd12 ct12),sl12⟩) (c12:PySem.W.codeIn K cd12 "with_answer" = true) (k12:PySem.W.keepIn K (.ref f12)=true)
  (a13:PySem.W.nsIn K mainGlobals "check_ruling" = some (some (.ref f13))) (l13:K.lookup f13=some ⟨oc13,od13,.func (PySem.W.fnOf "check_ruling" "check_ruling" (defArgs s_cruling) (defBody s_cruling) (defScope s_cruling) .none kV13 dc13 pm13 an13 cd13 ct13),sl13⟩) (c13:PySem.W.codeIn K cd13 "check_ruling" = true) (k13:PySem.W.keepIn K (.ref f13)=true)
  (a14:PySem.W.nsIn K mainGlobals "check_filled" = some (some (.ref f14))) (l14:K.lookup f14=some ⟨oc14,od14,.func (PySem.W.fnOf "check_filled" "check_filled" (defArgs s_cfilled) (defBody s_cfilled) (defScope s_cfilled) .none kV14 dc14 pm14 an14 cd14 ct14),sl14⟩) (c14:PySem.W.codeIn K cd14 "check_filled" = true) (k14:PySem.W.keepIn K (.ref f14)=true)
  (a15:PySem.W.nsIn K mainGlobals "lacks" = some (some (.ref f15))) (l15:K.lookup f15=some ⟨oc15,od15,.func (PySem.W.fnOf "lacks" "lacks" (defArgs s_lacks) (defBody s_lacks) (defScope s_lacks) .none kV15 dc15 pm15 an15 cd15 ct15),sl15⟩) (c15:PySem.W.codeIn K cd15 "lacks" = true) (k15:PySem.W.keepIn K (.ref f15)=true)
  (a16:PySem.W.nsIn K mainGlobals "matching" = some (some (.ref f16))) (l16:K.lookup f16=some ⟨oc16,od16,.func (PySem.W.fnOf "matching" "matching" (defArgs s_matching) (defBody s_matching) (defScope s_matching) .none kV16 dc16 pm16 an16 cd16 ct16),sl16⟩) (c16:PySem.W.codeIn K cd16 "matching" = true) (k16:PySem.W.keepIn K (.ref f16)=true)
  (a17:PySem.W.nsIn K mainGlobals "filled" = some (some (.ref f17))) (l17:K.lookup f17=some ⟨oc17,od17,.func (PySem.W.fnOf "filled" "filled" (defArgs s_filled) (defBody s_filled) (defScope s_filled) .none kV17 dc17 pm17 an17 cd17 ct17),sl17⟩) (c17:PySem.W.codeIn K cd17 "filled" = true) (k17:PySem.W.keepIn K (.ref f17)=true)
  (a18:PySem.W.nsIn K mainGlobals "meeting" = some (some (.ref f18))) (l18:K.lookup f18=some ⟨oc18,od18,.func (PySem.W.fnOf "meeting" "meeting" (defArgs s_meeting) (defBody s_meeting) (defScope s_meeting) .none kV18 dc18 pm18 an18 cd18 ct18),sl18⟩) (c18:PySem.W.codeIn K cd18 "meeting" = true) (k18:PySem.W.keepIn K (.ref f18)=true)
  (a19:PySem.W.nsIn K mainGlobals "joined" = some (some (.ref f19))) (l19:K.lookup f19=some ⟨oc19,od19,.func (PySem.W.fnOf "joined" "joined" (defArgs s_joined) (defBody s_joined) (defScope s_joined) .none kV19 dc19 pm19 an19 cd19 ct19),sl19⟩) (c19:PySem.W.codeIn K cd19 "joined" = true) (k19:PySem.W.keepIn K (.ref f19)=true)
  (a20:PySem.W.nsIn K mainGlobals "gaps" = some (some (.ref f20))) (l20:K.lookup f20=some ⟨oc20,od20,.func (PySem.W.fnOf "gaps" "gaps" (defArgs s_gaps) (defBody s_gaps) (defScope s_gaps) .none kV20 dc20 pm20 an20 cd20 ct20),sl20⟩) (c20:PySem.W.codeIn K cd20 "gaps" = true) (k20:PySem.W.keepIn K (.ref f20)=true)
  (a21:PySem.W.nsIn K mainGlobals "pairs_given" = some (some (.ref f21))) (l21:K.lookup f21=some ⟨oc21,od21,.func (PySem.W.fnOf "pairs_given" "pairs_given" (defArgs s_pg) (defBody s_pg) (defScope s_pg) .none kV21 dc21 pm21 an21 cd21 ct21),sl21⟩) (c21:PySem.W.codeIn K cd21 "pairs_given" = true) (k21:PySem.W.keepIn K (.ref f21)=true)
  (a22:PySem.W.nsIn K mainGlobals "answers" = some (some (.ref f22))) (l22:K.lookup f22=some ⟨oc22,od22,.func (PySem.W.fnOf "answers" "answers" (defArgs s_ans) (defBody s_ans) (defScope s_ans) .none kV22 dc22 pm22 an22 cd22 ct22),sl22⟩) (c22:PySem.W.codeIn K cd22 "answers" = true) (k22:PySem.W.keepIn K (.ref f22)=true)
  (a23:PySem.W.nsIn K mainGlobals "open_places" = some (some (.ref f23))) (l23:K.lookup f23=some ⟨oc23,od23,.func (PySem.W.fnOf "open_places" "open_places" (defArgs s_open) (defBody s_open) (defScope s_open) .none kV23 dc23 pm23 an23 cd23 ct23),sl23⟩) (c23:PySem.W.codeIn K cd23 "open_places" = true) (k23:PySem.W.keepIn K (.ref f23)=true)
  (a24:PySem.W.nsIn K mainGlobals "fits" = some (some (.ref f24))) (l24:K.lookup f24=some ⟨oc24,od24,.func (PySem.W.fnOf "fits" "fits" (defArgs s_fits) (defBody s_fits) (defScope s_fits) .none kV24 dc24 pm24 an24 cd24 ct24),sl24⟩) (c24:PySem.W.codeIn K cd24 "fits" = true) (k24:PySem.W.keepIn K (.ref f24)=true)
  (a25:PySem.W.nsIn K mainGlobals "fill" = some (some (.ref f25))) (l25:K.lookup f25=some ⟨oc25,od25,.func (PySem.W.fnOf "fill" "fill" (defArgs s_fill) (defBody s_fill) (defScope s_fill) .none kV25 dc25 pm25 an25 cd25 ct25),sl25⟩) (c25:PySem.W.codeIn K cd25 "fill" = true) (k25:PySem.W.keepIn K (.ref f25)=true)
  (a26:PySem.W.nsIn K mainGlobals "nearest" = some (some (.ref f26))) (l26:K.lookup f26=some ⟨oc26,od26,.func (PySem.W.fnOf "nearest" "nearest" (defArgs s_nearest) (defBody s_nearest) (defScope s_nearest) .none kV26 dc26 pm26 an26 cd26 ct26),sl26⟩) (c26:PySem.W.codeIn K cd26 "nearest" = true) (k26:PySem.W.keepIn K (.ref f26)=true)
  (a27:PySem.W.nsIn K mainGlobals "_law_cell" = some (some (.ref f27))) (l27:K.lookup f27=some ⟨oc27,od27,.func (PySem.W.fnOf "_law_cell" "_law_cell" (defArgs s_cell) (defBody s_cell) (defScope s_cell) .none kV27 dc27 pm27 an27 cd27 ct27),sl27⟩) (c27:PySem.W.codeIn K cd27 "_law_cell" = true) (k27:PySem.W.keepIn K (.ref f27)=true)
  (a28:PySem.W.nsIn K mainGlobals "_law_draws" = some (some (.ref f28))) (l28:K.lookup f28=some ⟨oc28,od28,.func (PySem.W.fnOf "_law_draws" "_law_draws" (defArgs s_draws) (defBody s_draws) (defScope s_draws) .none kV28 dc28 pm28 an28 cd28 ct28),sl28⟩) (c28:PySem.W.codeIn K cd28 "_law_draws" = true) (k28:PySem.W.keepIn K (.ref f28)=true)
  (a29:PySem.W.nsIn K mainGlobals "_law_same" = some (some (.ref f29))) (l29:K.lookup f29=some ⟨oc29,od29,.func (PySem.W.fnOf "_law_same" "_law_same" (defArgs s_same) (defBody s_same) (defScope s_same) .none kV29 dc29 pm29 an29 cd29 ct29),sl29⟩) (c29:PySem.W.codeIn K cd29 "_law_same" = true) (k29:PySem.W.keepIn K (.ref f29)=true)
  (a30:PySem.W.nsIn K mainGlobals "_law_count" = some (some (.ref f30))) (l30:K.lookup f30=some ⟨oc30,od30,.func (PySem.W.fnOf "_law_count" "_law_count" (defArgs s_count) (defBody s_count) (defScope s_count) .none kV30 dc30 pm30 an30 cd30 ct30),sl30⟩) (c30:PySem.W.codeIn K cd30 "_law_count" = true) (k30:PySem.W.keepIn K (.ref f30)=true)
  (a31:PySem.W.nsIn K mainGlobals "_law_not" = some (some (.ref f31))) (l31:K.lookup f31=some ⟨oc31,od31,.func (PySem.W.fnOf "_law_not" "_law_not" (defArgs s_not) (defBody s_not) (defScope s_not) .none kV31 dc31 pm31 an31 cd31 ct31),sl31⟩) (c31:PySem.W.codeIn K cd31 "_law_not" = true) (k31:PySem.W.keepIn K (.ref f31)=true)
  (a32:PySem.W.nsIn K mainGlobals "_law_hidden" = some (some (.ref f32))) (l32:K.lookup f32=some ⟨oc32,od32,.func (PySem.W.fnOf "_law_hidden" "_law_hidden" (defArgs s_hidden) (defBody s_hidden) (defScope s_hidden) .none kV32 dc32 pm32 an32 cd32 ct32),sl32⟩) (c32:PySem.W.codeIn K cd32 "_law_hidden" = true) (k32:PySem.W.keepIn K (.ref f32)=true)
  (a33:PySem.W.nsIn K mainGlobals "_law_bits" = some (some (.ref f33))) (l33:K.lookup f33=some ⟨oc33,od33,.func (PySem.W.fnOf "_law_bits" "_law_bits" (defArgs s_bits) (defBody s_bits) (defScope s_bits) .none kV33 dc33 pm33 an33 cd33 ct33),sl33⟩) (c33:PySem.W.codeIn K cd33 "_law_bits" = true) (k33:PySem.W.keepIn K (.ref f33)=true)
  (a34:PySem.W.nsIn K mainGlobals "_law_row_by" = some (some (.ref f34))) (l34:K.lookup f34=some ⟨oc34,od34,.func (PySem.W.fnOf "_law_row_by" "_law_row_by" (defArgs s_rowby) (defBody s_rowby) (defScope s_rowby) .none kV34 dc34 pm34 an34 cd34 ct34),sl34⟩) (c34:PySem.W.codeIn K cd34 "_law_row_by" = true) (k34:PySem.W.keepIn K (.ref f34)=true)
  (a35:PySem.W.nsIn K mainGlobals "_law_plan" = some (some (.ref f35))) (l35:K.lookup f35=some ⟨oc35,od35,.func (PySem.W.fnOf "_law_plan" "_law_plan" (defArgs s_plan) (defBody s_plan) (defScope s_plan) .none kV35 dc35 pm35 an35 cd35 ct35),sl35⟩) (c35:PySem.W.codeIn K cd35 "_law_plan" = true) (k35:PySem.W.keepIn K (.ref f35)=true)
  (a36:PySem.W.nsIn K mainGlobals "_law_rows" = some (some (.ref f36))) (l36:K.lookup f36=some ⟨oc36,od36,.func (PySem.W.fnOf "_law_rows" "_law_rows" (defArgs s_rows) (defBody s_rows) (defScope s_rows) .none kV36 dc36 pm36 an36 cd36 ct36),sl36⟩) (c36:PySem.W.codeIn K cd36 "_law_rows" = true) (k36:PySem.W.keepIn K (.ref f36)=true)
  (a37:PySem.W.nsIn K mainGlobals "_law_bears" = some (some (.ref f37))) (l37:K.lookup f37=some ⟨oc37,od37,.func (PySem.W.fnOf "_law_bears" "_law_bears" (defArgs s_bears) (defBody s_bears) (defScope s_bears) .none kV37 dc37 pm37 an37 cd37 ct37),sl37⟩) (c37:PySem.W.codeIn K cd37 "_law_bears" = true) (k37:PySem.W.keepIn K (.ref f37)=true)
  (a38:PySem.W.nsIn K mainGlobals "_law_goes_in" = some (some (.ref f38))) (l38:K.lookup f38=some ⟨oc38,od38,.func (PySem.W.fnOf "_law_goes_in" "_law_goes_in" (defArgs s_goes) (defBody s_goes) (defScope s_goes) .none kV38 dc38 pm38 an38 cd38 ct38),sl38⟩) (c38:PySem.W.codeIn K cd38 "_law_goes_in" = true) (k38:PySem.W.keepIn K (.ref f38)=true)
  (a39:PySem.W.nsIn K mainGlobals "_law_rulings" = some (some (.ref f39))) (l39:K.lookup f39=some ⟨oc39,od39,.func (PySem.W.fnOf "_law_rulings" "_law_rulings" (defArgs s_rul) (defBody s_rul) (defScope s_rul) .none kV39 dc39 pm39 an39 cd39 ct39),sl39⟩) (c39:PySem.W.codeIn K cd39 "_law_rulings" = true) (k39:PySem.W.keepIn K (.ref f39)=true)
  (a40:PySem.W.nsIn K mainGlobals "_law_matches" = some (some (.ref f40))) (l40:K.lookup f40=some ⟨oc40,od40,.func (PySem.W.fnOf "_law_matches" "_law_matches" (defArgs s_lmat) (defBody s_lmat) (defScope s_lmat) .none kV40 dc40 pm40 an40 cd40 ct40),sl40⟩) (c40:PySem.W.codeIn K cd40 "_law_matches" = true) (k40:PySem.W.keepIn K (.ref f40)=true)
  (a41:PySem.W.nsIn K mainGlobals "_law_pattern" = some (some (.ref f41))) (l41:K.lookup f41=some ⟨oc41,od41,.func (PySem.W.fnOf "_law_pattern" "_law_pattern" (defArgs s_pattern) (defBody s_pattern) (defScope s_pattern) .none kV41 dc41 pm41 an41 cd41 ct41),sl41⟩) (c41:PySem.W.codeIn K cd41 "_law_pattern" = true) (k41:PySem.W.keepIn K (.ref f41)=true)
  (a42:PySem.W.nsIn K mainGlobals "_law_word" = some (some (.ref f42))) (l42:K.lookup f42=some ⟨oc42,od42,.func (PySem.W.fnOf "_law_word" "_law_word" (defArgs s_word) (defBody s_word) (defScope s_word) .none kV42 dc42 pm42 an42 cd42 ct42),sl42⟩) (c42:PySem.W.codeIn K cd42 "_law_word" = true) (k42:PySem.W.keepIn K (.ref f42)=true)
  (a43:PySem.W.nsIn K mainGlobals "_law_bundles" = some (some (.ref f43))) (l43:K.lookup f43=some ⟨oc43,od43,.func (PySem.W.fnOf "_law_bundles" "_law_bundles" (defArgs s_lbun) (defBody s_lbun) (defScope s_lbun) .none kV43 dc43 pm43 an43 cd43 ct43),sl43⟩) (c43:PySem.W.codeIn K cd43 "_law_bundles" = true) (k43:PySem.W.keepIn K (.ref f43)=true)
  (a44:PySem.W.nsIn K mainGlobals "_law_apart" = some (some (.ref f44))) (l44:K.lookup f44=some ⟨oc44,od44,.func (PySem.W.fnOf "_law_apart" "_law_apart" (defArgs s_lapart) (defBody s_lapart) (defScope s_lapart) .none kV44 dc44 pm44 an44 cd44 ct44),sl44⟩) (c44:PySem.W.codeIn K cd44 "_law_apart" = true) (k44:PySem.W.keepIn K (.ref f44)=true)
  (a45:PySem.W.nsIn K mainGlobals "_law_shift" = some (some (.ref f45))) (l45:K.lookup f45=some ⟨oc45,od45,.func (PySem.W.fnOf "_law_shift" "_law_shift" (defArgs s_shift) (defBody s_shift) (defScope s_shift) .none kV45 dc45 pm45 an45 cd45 ct45),sl45⟩) (c45:PySem.W.codeIn K cd45 "_law_shift" = true) (k45:PySem.W.keepIn K (.ref f45)=true)
  (a46:PySem.W.nsIn K mainGlobals "_law_gaps" = some (some (.ref f46))) (l46:K.lookup f46=some ⟨oc46,od46,.func (PySem.W.fnOf "_law_gaps" "_law_gaps" (defArgs s_lgaps) (defBody s_lgaps) (defScope s_lgaps) .none kV46 dc46 pm46 an46 cd46 ct46),sl46⟩) (c46:PySem.W.codeIn K cd46 "_law_gaps" = true) (k46:PySem.W.keepIn K (.ref f46)=true)
  (a47:PySem.W.nsIn K mainGlobals "_law_filled" = some (some (.ref f47))) (l47:K.lookup f47=some ⟨oc47,od47,.func (PySem.W.fnOf "_law_filled" "_law_filled" (defArgs s_lfilled) (defBody s_lfilled) (defScope s_lfilled) .none kV47 dc47 pm47 an47 (.ref cc) ct47),sl47⟩) (c47:PySem.W.codeIn K (.ref cc) "_law_filled" = true) (k47:PySem.W.keepIn K (.ref f47)=true)
  (a48:PySem.W.nsIn K mainGlobals "_law_met" = some (some (.ref f48))) (l48:K.lookup f48=some ⟨oc48,od48,.func (PySem.W.fnOf "_law_met" "_law_met" (defArgs s_lmet) (defBody s_lmet) (defScope s_lmet) .none kV48 dc48 pm48 an48 (.ref cx2) ct48),sl48⟩) (c48:PySem.W.codeIn K (.ref cx2) "_law_met" = true) (k48:PySem.W.keepIn K (.ref f48)=true)
  (a49:PySem.W.nsIn K mainGlobals "_law_near" = some (some (.ref f49))) (l49:K.lookup f49=some ⟨oc49,od49,.func (PySem.W.fnOf "_law_near" "_law_near" (defArgs s_lnear) (defBody s_lnear) (defScope s_lnear) .none kV49 dc49 pm49 an49 (.ref cx3) ct49),sl49⟩) (c49:PySem.W.codeIn K (.ref cx3) "_law_near" = true) (k49:PySem.W.keepIn K (.ref f49)=true)
  (a50:PySem.W.nsIn K mainGlobals "law" = some (some (.ref f50))) (l50:K.lookup f50=some ⟨oc50,od50,.func (PySem.W.fnOf "law" "law" (defArgs s_law) (defBody s_law) (defScope s_law) .none kV50 dc50 pm50 an50 cd50 ct50),sl50⟩) (c50:PySem.W.codeIn K cd50 "law" = true) (k50:PySem.W.keepIn K (.ref f50)=true)
  {XW iW NW:Addr} {nmW qnW:Str} {bsW bmW sbW:List Value} {snW:List Str} {abW:Bool} {coW:Option Bool} {ddW:Option Addr} {x0W x1W x2W x3W x5W:Option Value} {oiW kiW diW piW ciW tiW:Value} {ojW aiW:Option Addr} {siW:Array (Option Value)}
  (mW:PySem.W.nsIn K mainGlobals "WapentakeError" = some (some (.ref XW))) (oW:K.lookup XW=some (excClassObj nmW qnW XW NW bsW bmW true snW sbW abW coW ddW x0W x1W x2W x3W x5W "ValueError.__new__"))
  (vW:XBases bmW) (saW:PySem.W.findIn K (.ref XW) "__setattr__" = some (some (.builtin "object.__setattr__"))) (gaW:PySem.W.findIn K (.ref XW) "__getattribute__" = some (some (.builtin "BaseException.__getattribute__"))) (gnW:PySem.W.findIn K (.ref XW) "__getattr__" = some none) (nwW:PySem.W.findIn K (.ref XW) "word" = some none)
  (inW:PySem.W.findIn K (.ref XW) "__init__" = some (some (.ref iW))) (ifW:PySem.W.isFn K (.ref iW)=true) (kpW:PySem.W.keepIn K (.ref XW)=true) (liW:K.lookup iW=some ⟨oiW,ojW,.func (PySem.W.fnOf "__init__" "WapentakeError.__init__" (defArgs s_winit) (defBody s_winit) (defScope s_winit) .none kiW diW piW aiW ciW tiW),siW⟩) (cdW:PySem.W.codeIn K ciW "WapentakeError.__init__" = true) (keW:PySem.W.keepIn K (.ref iW)=true)
  {XC iC NC:Addr} {nmC qnC:Str} {bsC bmC sbC:List Value} {snC:List Str} {abC:Bool} {coC:Option Bool} {ddC:Option Addr} {x0C x1C x2C x3C x5C:Option Value} {oiC kiC diC piC ciC tiC:Value} {ojC aiC:Option Addr} {siC:Array (Option Value)}
  (mC:PySem.W.nsIn K mainGlobals "BadPattern" = some (some (.ref XC))) (oC:K.lookup XC=some (excClassObj nmC qnC XC NC bsC bmC true snC sbC abC coC ddC x0C x1C x2C x3C x5C "ValueError.__new__"))
  (vC:XBases bmC) (saC:PySem.W.findIn K (.ref XC) "__setattr__" = some (some (.builtin "object.__setattr__"))) (gaC:PySem.W.findIn K (.ref XC) "__getattribute__" = some (some (.builtin "BaseException.__getattribute__"))) (gnC:PySem.W.findIn K (.ref XC) "__getattr__" = some none) (nwC:PySem.W.findIn K (.ref XC) "word" = some none)
  (inC:PySem.W.findIn K (.ref XC) "__init__" = some (some (.ref iC))) (ifC:PySem.W.isFn K (.ref iC)=true) (kpC:PySem.W.keepIn K (.ref XC)=true) (liC:K.lookup iC=some ⟨oiC,ojC,.func (PySem.W.fnOf "__init__" "BadPattern.__init__" (defArgs s_cinit) (defBody s_cinit) (defScope s_cinit) .none kiC diC piC aiC ciC tiC),siC⟩) (cdC:PySem.W.codeIn K ciC "BadPattern.__init__" = true) (keC:PySem.W.keepIn K (.ref iC)=true)
  {XS iS NS:Addr} {nmS qnS:Str} {bsS bmS sbS:List Value} {snS:List Str} {abS:Bool} {coS:Option Bool} {ddS:Option Addr} {x0S x1S x2S x3S x5S:Option Value} {oiS kiS diS piS ciS tiS:Value} {ojS aiS:Option Addr} {siS:Array (Option Value)}
  (mS:PySem.W.nsIn K mainGlobals "Empty" = some (some (.ref XS))) (oS:K.lookup XS=some (excClassObj nmS qnS XS NS bsS bmS true snS sbS abS coS ddS x0S x1S x2S x3S x5S "ValueError.__new__"))
  (vS:XBases bmS) (saS:PySem.W.findIn K (.ref XS) "__setattr__" = some (some (.builtin "object.__setattr__"))) (gaS:PySem.W.findIn K (.ref XS) "__getattribute__" = some (some (.builtin "BaseException.__getattribute__"))) (gnS:PySem.W.findIn K (.ref XS) "__getattr__" = some none) (nwS:PySem.W.findIn K (.ref XS) "word" = some none)
  (inS:PySem.W.findIn K (.ref XS) "__init__" = some (some (.ref iS))) (ifS:PySem.W.isFn K (.ref iS)=true) (kpS:PySem.W.keepIn K (.ref XS)=true) (liS:K.lookup iS=some ⟨oiS,ojS,.func (PySem.W.fnOf "__init__" "Empty.__init__" (defArgs s_sinit) (defBody s_sinit) (defScope s_sinit) .none kiS diS piS aiS ciS tiS),siS⟩) (cdS:PySem.W.codeIn K ciS "Empty.__init__" = true) (keS:PySem.W.keepIn K (.ref iS)=true)
  {XU iU NU:Addr} {nmU qnU:Str} {bsU bmU sbU:List Value} {snU:List Str} {abU:Bool} {coU:Option Bool} {ddU:Option Addr} {x0U x1U x2U x3U x5U:Option Value} {oiU kiU diU piU ciU tiU:Value} {ojU aiU:Option Addr} {siU:Array (Option Value)}
  (mU:PySem.W.nsIn K mainGlobals "Unmatched" = some (some (.ref XU))) (oU:K.lookup XU=some (excClassObj nmU qnU XU NU bsU bmU true snU sbU abU coU ddU x0U x1U x2U x3U x5U "ValueError.__new__"))
  (vU:XBases bmU) (saU:PySem.W.findIn K (.ref XU) "__setattr__" = some (some (.builtin "object.__setattr__"))) (gaU:PySem.W.findIn K (.ref XU) "__getattribute__" = some (some (.builtin "BaseException.__getattribute__"))) (gnU:PySem.W.findIn K (.ref XU) "__getattr__" = some none) (nwU:PySem.W.findIn K (.ref XU) "word" = some none)
  (inU:PySem.W.findIn K (.ref XU) "__init__" = some (some (.ref iU))) (ifU:PySem.W.isFn K (.ref iU)=true) (kpU:PySem.W.keepIn K (.ref XU)=true) (liU:K.lookup iU=some ⟨oiU,ojU,.func (PySem.W.fnOf "__init__" "Unmatched.__init__" (defArgs s_uinit) (defBody s_uinit) (defScope s_uinit) .none kiU diU piU aiU ciU tiU),siU⟩) (cdU:PySem.W.codeIn K ciU "Unmatched.__init__" = true) (keU:PySem.W.keepIn K (.ref iU)=true)
  (uC:(Value.ref XC :: bmC).contains (.ref XW)=true) (uS:(Value.ref XS :: bmS).contains (.ref XW)=true)
  (wg:PySem.W.specialIn K (.ref XW) "__getattribute__" = some (some (.builtin "type.__getattribute__"))) (wr:PySem.W.readsIn K XW (.type "type")=true) (wf:PySem.W.findCls K (.ref XW) (.type "type") "__init__" = some (.val (.ref iW)))
  (gv:PySem.W.nsIn K mainGlobals "ValueError" = some none)
  (uU:(Value.ref XU :: bmU).contains (.ref XW)=true)
  (tC:PySem.W.nsIn K mainGlobals "Table" = some (some (.ref CT))) (t1:PySem.W.plainGet K CT Str.empty=true) (t2:PySem.W.hasDictIn K CT=true) (t3:PySem.W.plainOver K CT=true) (t4:PySem.W.findIn K (.ref CT) "__setattr__" = some (some (.builtin "object.__setattr__"))) (t5:PySem.W.makesIn K CT=true) (t6:PySem.W.keepIn K (.ref CT)=true)
  (n_questions:PySem.W.findIn K (.ref CT) "questions" = some none)
  (n_kept:PySem.W.findIn K (.ref CT) "kept" = some none)
  (n_both:PySem.W.findIn K (.ref CT) "both" = some none)
  (ha0:PySem.W.findIn K (.ref CT) "__init__" = some (some (.ref mf0))) (hf0:PySem.W.isFn K (.ref mf0)=true) (hl0:K.lookup mf0=some ⟨mq0,mo0,.func (PySem.W.fnOf "__init__" "Table.__init__" (defArgs s_init) (defBody s_init) (defScope s_init) .none mk0 md0 mp0 ma0 mc0 mt0),ms0⟩) (hc0:PySem.W.codeIn K mc0 "Table.__init__" = true) (hk0:PySem.W.keepIn K (.ref mf0)=true)
  (ha1:PySem.W.findIn K (.ref CT) "add" = some (some (.ref mf1))) (hf1:PySem.W.isFn K (.ref mf1)=true) (hl1:K.lookup mf1=some ⟨mq1,mo1,.func (PySem.W.fnOf "add" "Table.add" (defArgs s_add) (defBody s_add) (defScope s_add) .none mk1 md1 mp1 ma1 mc1 mt1),ms1⟩) (hc1:PySem.W.codeIn K mc1 "Table.add" = true) (hk1:PySem.W.keepIn K (.ref mf1)=true)
  (ha2:PySem.W.findIn K (.ref CT) "take" = some (some (.ref mf2))) (hf2:PySem.W.isFn K (.ref mf2)=true) (hl2:K.lookup mf2=some ⟨mq2,mo2,.func (PySem.W.fnOf "take" "Table.take" (defArgs s_take) (defBody s_take) (defScope s_take) .none mk2 md2 mp2 ma2 mc2 mt2),ms2⟩) (hc2:PySem.W.codeIn K mc2 "Table.take" = true) (hk2:PySem.W.keepIn K (.ref mf2)=true)
  (ha3:PySem.W.findIn K (.ref CT) "tally" = some (some (.ref mf3))) (hf3:PySem.W.isFn K (.ref mf3)=true) (hl3:K.lookup mf3=some ⟨mq3,mo3,.func (PySem.W.fnOf "tally" "Table.tally" (defArgs s_tally) (defBody s_tally) (defScope s_tally) .none mk3 md3 mp3 ma3 mc3 mt3),ms3⟩) (hc3:PySem.W.codeIn K mc3 "Table.tally" = true) (hk3:PySem.W.keepIn K (.ref mf3)=true)
  (ha4:PySem.W.findIn K (.ref CT) "many" = some (some (.ref mf4))) (hf4:PySem.W.isFn K (.ref mf4)=true) (hl4:K.lookup mf4=some ⟨mq4,mo4,.func (PySem.W.fnOf "many" "Table.many" (defArgs s_many) (defBody s_many) (defScope s_many) .none mk4 md4 mp4 ma4 mc4 mt4),ms4⟩) (hc4:PySem.W.codeIn K mc4 "Table.many" = true) (hk4:PySem.W.keepIn K (.ref mf4)=true)
  (ha5:PySem.W.findIn K (.ref CT) "count" = some (some (.ref mf5))) (hf5:PySem.W.isFn K (.ref mf5)=true) (hl5:K.lookup mf5=some ⟨mq5,mo5,.func (PySem.W.fnOf "count" "Table.count" (defArgs s_tcount) (defBody s_tcount) (defScope s_tcount) .none mk5 md5 mp5 ma5 mc5 mt5),ms5⟩) (hc5:PySem.W.codeIn K mc5 "Table.count" = true) (hk5:PySem.W.keepIn K (.ref mf5)=true)
  {tq ts:Tok} (gq:PySem.W.nsIn K mainGlobals "MOST_QUESTIONS" = some (some (.int 12 tq))) (gs:PySem.W.nsIn K mainGlobals "SIGNS" = some (some (.str "ny" ts)))
  (z0:PySem.W.nsIn K mainGlobals "len" = some none) (z1:PySem.W.nsIn K mainGlobals "range" = some none) (z2:PySem.W.nsIn K mainGlobals "all" = some none) (z3:PySem.W.nsIn K mainGlobals "zip" = some none) (z4:PySem.W.nsIn K mainGlobals "abs" = some none) (z5:PySem.W.nsIn K mainGlobals "int" = some none) (z6:PySem.W.nsIn K mainGlobals "str" = some none) (z7:PySem.W.nsIn K mainGlobals "bool" = some none) (z8:PySem.W.nsIn K mainGlobals "list" = some none) (z9:PySem.W.nsIn K mainGlobals "tuple" = some none) (z10:PySem.W.nsIn K mainGlobals "isinstance" = some none) (z11:PySem.W.nsIn K mainGlobals "enumerate" = some none) (z12:PySem.W.nsIn K mainGlobals "sum" = some none) (z13:PySem.W.nsIn K mainGlobals "sorted" = some none) (z14:PySem.W.nsIn K mainGlobals "dict" = some none) (z15:PySem.W.nsIn K mainGlobals "any" = some none) :
  ∃ fd:FuncData,(∀(s:Shared) (v:Value),BindsTo s fd ⟨[v],[]⟩ [("_law_script",v)])/\PySem.W.codeHdIn K cc Pt=true/\PySem.W.codeHdIn K cx2 P2=true/\PySem.W.codeHdIn K cx3 P3=true/\∀ base:Heap,K.In base->base.Ns mainGlobals mg->BMain mg base->FnOk l.prog w K mg base (CXE l.prog w) 12 fa fd ["_law_script"] (spLaw K Pt P2 P3):=by
 have e:=hfa.symm.trans (PySem.W.mg_of X G a50)
 cases e
 have B:Bt mg:=⟨PySem.W.mg_none_of X G z0,PySem.W.mg_none_of X G z1,PySem.W.mg_none_of X G z2,PySem.W.mg_none_of X G z3,PySem.W.mg_none_of X G z4,PySem.W.mg_none_of X G z5,PySem.W.mg_none_of X G z6,PySem.W.mg_none_of X G z7,PySem.W.mg_none_of X G z8,PySem.W.mg_none_of X G z9,PySem.W.mg_none_of X G z10⟩
 have M:Gm mg:=⟨PySem.W.mg_none_of X G z11,PySem.W.mg_none_of X G z12,PySem.W.mg_none_of X G z13,PySem.W.mg_none_of X G z14,⟨_,PySem.W.mg_of X G gq⟩,⟨_,PySem.W.mg_of X G gs⟩⟩
 have Y:Bx mg:=⟨PySem.W.mg_none_of X G z15⟩
 have D1:=df_mk (st:=s_ccount) (ps:=["questions"]) X G a1 l1 c1 k1 fun _ _ _ _ _ _ us hl=>match us,hl with | [_],_=>rfl
 have D2:=df_mk (st:=s_cquest) (ps:=["question", "questions"]) X G a2 l2 c2 k2 fun _ _ _ _ _ _ us hl=>match us,hl with | [_,_],_=>rfl
 have D3:=df_mk (st:=s_csign) (ps:=["sign"]) X G a3 l3 c3 k3 fun _ _ _ _ _ _ us hl=>match us,hl with | [_],_=>rfl
 have D4:=df_mk (st:=s_cans) (ps:=["q", "a", "r", "b", "questions"]) X G a4 l4 c4 k4 fun _ _ _ _ _ _ us hl=>match us,hl with | [_,_,_,_,_],_=>rfl
 have D5:=df_mk (st:=s_crow) (ps:=["row", "questions"]) X G a5 l5 c5 k5 fun _ _ _ _ _ _ us hl=>match us,hl with | [_,_],_=>rfl
 have D6:=df_mk (st:=s_cpat) (ps:=["pattern", "questions"]) X G a6 l6 c6 k6 fun _ _ _ _ _ _ us hl=>match us,hl with | [_,_],_=>rfl
 have D7:=df_mk (st:=s_other) (ps:=["sign"]) X G a7 l7 c7 k7 fun _ _ _ _ _ _ us hl=>match us,hl with | [_],_=>rfl
 have D8:=df_mk (st:=s_isrow) (ps:=["row", "questions"]) X G a8 l8 c8 k8 fun _ _ _ _ _ _ us hl=>match us,hl with | [_,_],_=>rfl
 have D9:=df_mk (st:=s_ispat) (ps:=["pattern", "questions"]) X G a9 l9 c9 k9 fun _ _ _ _ _ _ us hl=>match us,hl with | [_,_],_=>rfl
 have D10:=df_mk (st:=s_only) (ps:=["text", "signs"]) X G a10 l10 c10 k10 fun _ _ _ _ _ _ us hl=>match us,hl with | [_,_],_=>rfl
 have D11:=df_mk (st:=s_turned) (ps:=["row", "questions"]) X G a11 l11 c11 k11 fun _ _ _ _ _ _ us hl=>match us,hl with | [_,_],_=>rfl
 have D12:=df_mk (st:=s_with) (ps:=["pattern", "question", "sign"]) X G a12 l12 c12 k12 fun _ _ _ _ _ _ us hl=>match us,hl with | [_,_,_],_=>rfl
 have D13:=df_mk (st:=s_cruling) (ps:=["table", "row"]) X G a13 l13 c13 k13 fun _ _ _ _ _ _ us hl=>match us,hl with | [_,_],_=>rfl
 have D14:=df_mk (st:=s_cfilled) (ps:=["table"]) X G a14 l14 c14 k14 fun _ _ _ _ _ _ us hl=>match us,hl with | [_],_=>rfl
 have D15:=df_mk (st:=s_lacks) (ps:=["table", "row"]) X G a15 l15 c15 k15 fun _ _ _ _ _ _ us hl=>match us,hl with | [_,_],_=>rfl
 have D16:=df_mk (st:=s_matching) (ps:=["table", "pattern"]) X G a16 l16 c16 k16 fun _ _ _ _ _ _ us hl=>match us,hl with | [_,_],_=>rfl
 have D17:=df_mk (st:=s_filled) (ps:=["table", "pattern"]) X G a17 l17 c17 k17 fun _ _ _ _ _ _ us hl=>match us,hl with | [_,_],_=>rfl
 have D18:=df_mk (st:=s_meeting) (ps:=["table", "patterns"]) X G a18 l18 c18 k18 fun _ _ _ _ _ _ us hl=>match us,hl with | [_,_],_=>rfl
 have D19:=df_mk (st:=s_joined) (ps:=["table", "patterns"]) X G a19 l19 c19 k19 fun _ _ _ _ _ _ us hl=>match us,hl with | [_,_],_=>rfl
 have D20:=df_mk (st:=s_gaps) (ps:=["table", "pattern"]) X G a20 l20 c20 k20 fun _ _ _ _ _ _ us hl=>match us,hl with | [_,_],_=>rfl
 have D21:=df_mk (st:=s_pg) (ps:=["table", "pattern", "many"]) X G a21 l21 c21 k21 fun _ _ _ _ _ _ us hl=>match us,hl with | [_,_,_],_=>rfl
 have D22:=df_mk (st:=s_ans) (ps:=["pattern"]) X G a22 l22 c22 k22 fun _ _ _ _ _ _ us hl=>match us,hl with | [_],_=>rfl
 have D23:=df_mk (st:=s_open) (ps:=["pattern"]) X G a23 l23 c23 k23 fun _ _ _ _ _ _ us hl=>match us,hl with | [_],_=>rfl
 have D24:=df_mk (st:=s_fits) (ps:=["table", "pattern", "question", "sign"]) X G a24 l24 c24 k24 fun _ _ _ _ _ _ us hl=>match us,hl with | [_,_,_,_],_=>rfl
 have D25:=df_mk (st:=s_fill) (ps:=["table", "pattern"]) X G a25 l25 c25 k25 fun _ _ _ _ _ _ us hl=>match us,hl with | [_,_],_=>rfl
 have D26:=df_mk (st:=s_nearest) (ps:=["table", "row", "pattern"]) X G a26 l26 c26 k26 fun _ _ _ _ _ _ us hl=>match us,hl with | [_,_,_],_=>rfl
 have D27:=df_mk (st:=s_cell) (ps:=["_law_script", "_law_k"]) X G a27 l27 c27 k27 fun _ _ _ _ _ _ us hl=>match us,hl with | [_,_],_=>rfl
 have D28:=df_mk (st:=s_draws) (ps:=["_law_cell_here", "_law_parts"]) X G a28 l28 c28 k28 fun _ _ _ _ _ _ us hl=>match us,hl with | [_,_],_=>rfl
 have D29:=df_mk (st:=s_same) (ps:=["_law_found", "_law_due"]) X G a29 l29 c29 k29 fun _ _ _ _ _ _ us hl=>match us,hl with | [_,_],_=>rfl
 have D30:=df_mk (st:=s_count) (ps:=["_law_cell_here"]) X G a30 l30 c30 k30 fun _ _ _ _ _ _ us hl=>match us,hl with | [_],_=>rfl
 have D31:=df_mk (st:=s_not) (ps:=["_law_sign"]) X G a31 l31 c31 k31 fun _ _ _ _ _ _ us hl=>match us,hl with | [_],_=>rfl
 have D32:=df_mk (st:=s_hidden) (ps:=["_law_plan_here", "_law_m", "_law_number"]) X G a32 l32 c32 k32 fun _ _ _ _ _ _ us hl=>match us,hl with | [_,_,_],_=>rfl
 have D33:=df_mk (st:=s_bits) (ps:=["_law_number", "_law_n"]) X G a33 l33 c33 k33 fun _ _ _ _ _ _ us hl=>match us,hl with | [_,_],_=>rfl
 have D34:=df_mk (st:=s_rowby) (ps:=["_law_number", "_law_n", "_law_plan_here"]) X G a34 l34 c34 k34 fun _ _ _ _ _ _ us hl=>match us,hl with | [_,_,_],_=>rfl
 have D35:=df_mk (st:=s_plan) (ps:=["_law_cell_here"]) X G a35 l35 c35 k35 fun _ _ _ _ _ _ us hl=>match us,hl with | [_],_=>rfl
 have D36:=df_mk (st:=s_rows) (ps:=["_law_cells", "_law_n", "_law_cell_here"]) X G a36 l36 c36 k36 fun _ _ _ _ _ _ us hl=>match us,hl with | [_,_,_],_=>rfl
 have D37:=df_mk (st:=s_bears) (ps:=["_law_rows_here", "_law_q", "_law_a", "_law_r", "_law_b"]) X G a37 l37 c37 k37 fun _ _ _ _ _ _ us hl=>match us,hl with | [_,_,_,_,_],_=>rfl
 have D38:=df_mk (st:=s_goes) (ps:=["_law_rows_here", "_law_text", "_law_sign"]) X G a38 l38 c38 k38 fun _ _ _ _ _ _ us hl=>match us,hl with | [_,_,_],_=>rfl
 have D39:=df_mk (st:=s_rul) (ps:=["_law_rows_here", "_law_n"]) X G a39 l39 c39 k39 fun _ _ _ _ _ _ us hl=>match us,hl with | [_,_],_=>rfl
 have D40:=df_mk (st:=s_lmat) (ps:=["_law_row", "_law_pattern_here"]) X G a40 l40 c40 k40 fun _ _ _ _ _ _ us hl=>match us,hl with | [_,_],_=>rfl
 have D41:=df_mk (st:=s_pattern) (ps:=["_law_row", "_law_number"]) X G a41 l41 c41 k41 fun _ _ _ _ _ _ us hl=>match us,hl with | [_,_],_=>rfl
 have D42:=df_mk (st:=s_word) (ps:=["_law_asked"]) X G a42 l42 c42 k42 fun _ _ _ _ _ _ us hl=>match us,hl with | [_],_=>rfl
 have D43:=df_mk (st:=s_lbun) (ps:=["_law_rows_here", "_law_n"]) X G a43 l43 c43 k43 fun _ _ _ _ _ _ us hl=>match us,hl with | [_,_],_=>rfl
 have D44:=df_mk (st:=s_lapart) (ps:=["_law_sheaves", "_law_one", "_law_another"]) X G a44 l44 c44 k44 fun _ _ _ _ _ _ us hl=>match us,hl with | [_,_,_],_=>rfl
 have D45:=df_mk (st:=s_shift) (ps:=["_law_made", "_law_rows_here", "_law_fresh", "_law_drawn"]) X G a45 l45 c45 k45 fun _ _ _ _ _ _ us hl=>match us,hl with | [_,_,_,_],_=>rfl
 have D46:=df_mk (st:=s_lgaps) (ps:=["_law_rows_here", "_law_text"]) X G a46 l46 c46 k46 fun _ _ _ _ _ _ us hl=>match us,hl with | [_,_],_=>rfl
 have D47:=df_mk (st:=s_lfilled) (ps:=["_law_made", "_law_rows_here", "_law_kept", "_law_pattern_here"]) X G a47 l47 c47 k47 fun _ _ _ _ _ _ us hl=>match us,hl with | [_,_,_,_],_=>rfl
 have D48:=df_mk (st:=s_lmet) (ps:=["_law_made", "_law_rows_here", "_law_kept", "_law_three"]) X G a48 l48 c48 k48 fun _ _ _ _ _ _ us hl=>match us,hl with | [_,_,_,_],_=>rfl
 have D49:=df_mk (st:=s_lnear) (ps:=["_law_made", "_law_rows_here", "_law_kept", "_law_row", "_law_pattern_here"]) X G a49 l49 c49 k49 fun _ _ _ _ _ _ us hl=>match us,hl with | [_,_,_,_,_],_=>rfl
 have D50:=df_mk (st:=s_law) (ps:=["_law_script"]) X G a50 l50 c50 k50 fun _ _ _ _ _ _ us hl=>match us,hl with | [_],_=>rfl
 have F0:=fun_mk (st:=s_init) hl0 hc0 hk0
 have b0:=F0.binds (ps:=["self", "questions"]) fun _ _ _ _ _ _ us hl=>match us,hl with | [_,_],_=>rfl
 have F1:=fun_mk (st:=s_add) hl1 hc1 hk1
 have b1:=F1.binds (ps:=["self", "row"]) fun _ _ _ _ _ _ us hl=>match us,hl with | [_,_],_=>rfl
 have F2:=fun_mk (st:=s_take) hl2 hc2 hk2
 have b2:=F2.binds (ps:=["self", "row"]) fun _ _ _ _ _ _ us hl=>match us,hl with | [_,_],_=>rfl
 have F3:=fun_mk (st:=s_tally) hl3 hc3 hk3
 have b3:=F3.binds (ps:=["self", "row", "by"]) fun _ _ _ _ _ _ us hl=>match us,hl with | [_,_,_],_=>rfl
 have F4:=fun_mk (st:=s_many) hl4 hc4 hk4
 have b4:=F4.binds (ps:=["self"]) fun _ _ _ _ _ _ us hl=>match us,hl with | [_],_=>rfl
 have F5:=fun_mk (st:=s_tcount) hl5 hc5 hk5
 have b5:=F5.binds (ps:=["self", "q", "a", "r", "b"]) fun _ _ _ _ _ _ us hl=>match us,hl with | [_,_,_,_,_],_=>rfl
 have T:Tb K mg CT mf0 mf1 mf2 mf3 mf4 mf5 _ _ _ _ _ _:=⟨PySem.W.mg_of X G tC,⟨t1,t2,t3,t4⟩,⟨t5,ha0,hf0,t6⟩,n_questions,n_kept,n_both,⟨ha1,hf1,hk1⟩,⟨ha2,hf2,hk2⟩,⟨ha3,hf3,hk3⟩,⟨ha4,hf4,hk4⟩,⟨ha5,hf5,hk5⟩,F0,F1,F2,F3,F4,F5,b0,b1,b2,b3,b4,b5⟩
 have FW:=fun_mk (st:=s_winit) liW cdW keW
 have bW:=FW.binds (ps:=["self", "word"]) fun _ _ _ _ _ _ us hl=>match us,hl with | [_,_],_=>rfl
 have kW:XKl K XW:=⟨⟨⟨_,_,_,_,_,_,_,_,_,_,_,_,_,_,_,oW,vW⟩⟩,saW,gaW,gnW,nwW⟩
 have FC:=fun_mk (st:=s_cinit) liC cdC keC
 have bC:=FC.binds (ps:=["self"]) fun _ _ _ _ _ _ us hl=>match us,hl with | [_],_=>rfl
 have kC:XKl K XC:=⟨⟨⟨_,_,_,_,_,_,_,_,_,_,_,_,_,_,_,oC,vC⟩⟩,saC,gaC,gnC,nwC⟩
 have FS:=fun_mk (st:=s_sinit) liS cdS keS
 have bS:=FS.binds (ps:=["self"]) fun _ _ _ _ _ _ us hl=>match us,hl with | [_],_=>rfl
 have kS:XKl K XS:=⟨⟨⟨_,_,_,_,_,_,_,_,_,_,_,_,_,_,_,oS,vS⟩⟩,saS,gaS,gnS,nwS⟩
 have FU:=fun_mk (st:=s_uinit) liU cdU keU
 have bU:=FU.binds (ps:=["self"]) fun _ _ _ _ _ _ us hl=>match us,hl with | [_],_=>rfl
 have kU:XKl K XU:=⟨⟨⟨_,_,_,_,_,_,_,_,_,_,_,_,_,_,_,oU,vU⟩⟩,saU,gaU,gnU,nwU⟩
 have XX:Xs K mg XW XC XS iW iC iS _ _ _:=⟨PySem.W.mg_of X G mW,PySem.W.mg_of X G mC,PySem.W.mg_of X G mS,PySem.W.mg_none_of X G gv,kW,kC,kS,⟨⟨_,_,_,_,_,_,_,_,_,_,_,_,_,_,_,oC,uC⟩⟩,⟨⟨_,_,_,_,_,_,_,_,_,_,_,_,_,_,_,oS,uS⟩⟩,⟨wg,wr,wf,keW⟩,⟨inC,ifC,kpC⟩,⟨inS,ifS,kpS⟩,FW,FC,FS,bW,bC,bS⟩
 have Z_Unmatched:Xc K mg XW XU iU _ "Unmatched" "Unmatched.__init__" s_uinit:=⟨PySem.W.mg_of X G mU,kU,⟨⟨_,_,_,_,_,_,_,_,_,_,_,_,_,_,_,oU,uU⟩⟩,⟨inU,ifU,kpU⟩,FU,bU⟩
 refine ⟨_,fun s v=>BindsTo.of_eq (fd:=PySem.W.fnOf "law" "law" (defArgs s_law) (defBody s_law) (defScope s_law) .none kV50 dc50 pm50 an50 cd50 ct50) rfl,hH,hI2,hI3,fun base KB _ BM=>?_⟩
 exact ok_law D50 D27 D28 D30 D36 (ok_rows D36 D28 D35 D34 (ok_plan D35 D28 B) (ok_rowby D34 D33 D32 D31 B) B) D45 (ok_shift D45 T (ok_tadd T D5 (ok_crow D5 D8 (ok_isrow D8 D1 D10 B M)) M) (ok_ttake T D5 (ok_crow D5 D8 (ok_isrow D8 D1 D10 B M)) M) B) D39 (ok_rul D39 D38 (ok_goes D38 D37 B) B) D41 D33 D47 (ok_lfilled l47 c47 D42 D29 D17 (fun _=>ok_filled D17 D6 (ok_cpat D6 D9 (ok_ispat D9 D1 D10 B M) XX) D14 D20 (ok_gaps D20 D21 (ok_pg D21 D22 T (ok_tcount T D4 (ok_cans D4 D2 D3)) M)) D25 (ok_fill D25 D23 D24 (ok_fits D24 D22 T (ok_tcount T D4 (ok_cans D4 D2 D3)) B M) D12 M) T XX M) D16 (ok_match D16 D6 (ok_cpat D6 D9 (ok_ispat D9 D1 D10 B M) XX) D20 (ok_gaps D20 D21 (ok_pg D21 D22 T (ok_tcount T D4 (ok_cans D4 D2 D3)) M)) D23 D24 (ok_fits D24 D22 T (ok_tcount T D4 (ok_cans D4 D2 D3)) B M) D12 T M) D40 (ok_lmat D40 B) D46 (ok_lgaps D46 D37 (ok_bears D37) B) XX B Y (PySem.W.codeHd_of_K KB hH) BM) D48 (ok_lmet l48 c48 D42 D29 D18 (fun _=>ok_meeting D18 D6 (ok_cpat D6 D9 (ok_ispat D9 D1 D10 B M) XX) D14 D20 (ok_gaps D20 D21 (ok_pg D21 D22 T (ok_tcount T D4 (ok_cans D4 D2 D3)) M)) D19 (ok_joined D19 D22 T (ok_tcount T D4 (ok_cans D4 D2 D3)) D25 (ok_fill D25 D23 D24 (ok_fits D24 D22 T (ok_tcount T D4 (ok_cans D4 D2 D3)) B M) D12 M) D12 B M) T XX M) D40 (ok_lmat D40 B) XX B Y (PySem.W.codeHd_of_K KB hI2) BM) D49 (ok_lnear l49 c49 D42 D29 D26 (fun _=>ok_nearest D26 D13 (ok_crul D13 D15 (ok_lacks D15 D20 (ok_gaps D20 D21 (ok_pg D21 D22 T (ok_tcount T D4 (ok_cans D4 D2 D3)) M)) D5 (ok_crow D5 D8 (ok_isrow D8 D1 D10 B M)) T)) D6 (ok_cpat D6 D9 (ok_ispat D9 D1 D10 B M) XX) D20 (ok_gaps D20 D21 (ok_pg D21 D22 T (ok_tcount T D4 (ok_cans D4 D2 D3)) M)) D11 (ok_turned D11 D7 (ok_other D7 D3) M) D24 (ok_fits D24 D22 T (ok_tcount T D4 (ok_cans D4 D2 D3)) B M) T XX Z_Unmatched M) D40 (ok_lmat D40 B) D43 (ok_lbun D43 D37 B) D44 (ok_lapart D44) XX Z_Unmatched B Y (PySem.W.codeHd_of_K KB hI3) BM) hN_Pt_P2 hN_Pt_P3 hN_P2_P3 T D1 B M
theorem walk {l:PySem.W.OpenLaw}{q:Program}{loose:List Str}{XP:(Str->Option Value)->Heap->Prop}{YP:World->Heap->Prop}{d:DefRec}{K:Params->PySem.W.Frag}{cc Pt cx2 P2 cx3 P3:Addr}(hn:l.most=some 63) (hdf:d.params.defaults=[])
  (hY:∀(w:World) (h:Heap),YP w h->(K w.params).In h) (hT:∀(w:World) (h:Heap),YP w h->h.get? Pt=some (PySem.W.tabObj #[])) (hC:∀ w:World,PySem.W.codeHdIn (K w.params) cc Pt=true) (hK:∀ w:World,(K w.params).lookup Pt=none) (hT2:∀(w:World) (h:Heap),YP w h->h.get? P2=some (PySem.W.tabObj #[])) (hC2:∀ w:World,PySem.W.codeHdIn (K w.params) cx2 P2=true) (hK2:∀ w:World,(K w.params).lookup P2=none) (hT3:∀(w:World) (h:Heap),YP w h->h.get? P3=some (PySem.W.tabObj #[])) (hC3:∀ w:World,PySem.W.codeHdIn (K w.params) cx3 P3=true) (hK3:∀ w:World,(K w.params).lookup P3=none)
  (F:∀(w:World) (mg:Str->Option Value) (fa:Addr) (h:Heap),(K w.params).In h->h.Ns mainGlobals mg->mg d.name=some (.ref fa) ->
   ∃ fd:FuncData,(∀(s:Shared) (u:Value),BindsTo s fd ⟨[u],[]⟩ [("_law_script",u)])/\PySem.W.codeHdIn (K w.params) cc Pt=true/\PySem.W.codeHdIn (K w.params) cx2 P2=true/\PySem.W.codeHdIn (K w.params) cx3 P3=true/\∀ base:Heap,(K w.params).In base->base.Ns mainGlobals mg->BMain mg base->FnOk l.prog w (K w.params) mg base (CXE l.prog w) 12 fa fd ["_law_script"] (spLaw (K w.params) Pt P2 P3)) :
  PySem.W.WalkO q loose XP YP l.row.toRowW d [] (fun f vs=>PySem.call f vs) :=
 L2.walk_ofT (n:=63) (k:=12) (x := "_law_script") (tabs:=[(cc,Pt),(cx2,P2),(cx3,P3)]) (CX:=fun w=>CXE l.prog w) (sp:=fun w=>spLaw (K w.params) Pt P2 P3) hn (by decide) hdf ⟨rfl,by decide,by decide⟩ hY
  (fun w h Y q hq=>by rcases List.mem_cons.mp hq with rfl | hq; exact hT w h Y; rcases List.mem_cons.mp hq with rfl | hq; exact hT2 w h Y; obtain rfl:=List.mem_singleton.mp hq; exact hT3 w h Y) (fun w h KX q hq=>by rcases List.mem_cons.mp hq with rfl | hq; exact PySem.W.codeHd_of_K KX (hC w); rcases List.mem_cons.mp hq with rfl | hq; exact PySem.W.codeHd_of_K KX (hC2 w); obtain rfl:=List.mem_singleton.mp hq; exact PySem.W.codeHd_of_K KX (hC3 w)) (fun w q hq=>by rcases List.mem_cons.mp hq with rfl | hq; exact hK w; rcases List.mem_cons.mp hq with rfl | hq; exact hK2 w; obtain rfl:=List.mem_singleton.mp hq; exact hK3 w)
  (fun w mg fa h h1 h2 h3=>let ⟨fd,e1,_,_,_,e2⟩:=F w mg fa h h1 h2 h3; ⟨fd,e1,e2⟩) (fun _ _ a ns hl hS hTs=>⟨a,ns,rfl,hS,hl,hTs (cc,Pt) List.mem_cons_self,hTs (cx2,P2) (List.mem_cons_of_mem _ List.mem_cons_self),hTs (cx3,P3) (List.mem_cons_of_mem _ (List.mem_cons_of_mem _ List.mem_cons_self)),fun _=>rfl⟩) fun _ _ _ _ _ z=>by
  obtain ⟨_,_,_,_,_,_,_,_,_,_,_,_,_,_,_,q⟩:=z
  exact q.elim
end K63
open PySem PySem.W PyProof.Rows
def PySem.W.Fast.tw9403078795792185758 : Unit := ()
def PySem.W.Fast.tw4299071186221411532 : Unit := ()
def PySem.W.Fast.tw10047620465071911307 : Unit := ()
def PySem.W.Fast.tw6239350330028027775 : Unit := ()
def PySem.W.Fast.tw11824693760555464471 : Unit := ()
def PySem.W.Fast.tw13988081965034706865 : Unit := ()
def PySem.W.Fast.tw15202680749855443944 : Unit := ()
def PySem.W.Fast.tw10509369413170830332 : Unit := ()
def PySem.W.Fast.tw2735914827412828272 : Unit := ()
def PySem.W.Fast.tw17404059973602946844 : Unit := ()
def PySem.W.Fast.tw3868424019747107731 : Unit := ()
def PySem.W.Fast.tw12816628760613689926 : Unit := ()
def PySem.W.Fast.tw7964313523639944388 : Unit := ()
def PySem.W.Fast.tw17190047913524555514 : Unit := ()
def PySem.W.Fast.tw1145157328037426086 : Unit := ()
def PySem.W.Fast.tw9976706125884419985 : Unit := ()
def PySem.W.Fast.tw1738002036567129732 : Unit := ()
def PySem.W.Fast.tw10247924090731514654 : Unit := ()
def PySem.W.Fast.tw16198118161505604432 : Unit := ()
def PySem.W.Fast.tw16890805200737681384 : Unit := ()
def PySem.W.Fast.tw5657984576377197546 : Unit := ()
def PySem.W.Fast.tw13692630093724080526 : Unit := ()
def PySem.W.Fast.tw14561554724734424960 : Unit := ()
def PySem.W.Fast.tw600090452483744256 : Unit := ()
def PySem.W.Fast.tw12359862849993165939 : Unit := ()
def PySem.W.Fast.tw12103562696189780334 : Unit := ()
def PySem.W.Fast.tw2734837179883751951 : Unit := ()
def PySem.W.Fast.tw14903433342213425663 : Unit := ()
def PySem.W.Fast.tw3712156503636328959 : Unit := ()
def PySem.W.Fast.tw3056675980201694245 : Unit := ()
def PySem.W.Fast.tw5412655086770691457 : Unit := ()
def PySem.W.Fast.tw12908854181127803543 : Unit := ()
def PySem.W.Fast.tw8488791020161282142 : Unit := ()
def PySem.W.Fast.tw8627352250349196577 : Unit := ()
def PySem.W.Fast.tw18015226941038188773 : Unit := ()
def PySem.W.Fast.tw18361755106544240200 : Unit := ()
def PySem.W.Fast.tw13565468098299208213 : Unit := ()
def PySem.W.Fast.tw11229695303200735766 : Unit := ()
def PySem.W.Fast.tw14151272813096592013 : Unit := ()
def PySem.W.Fast.tw8255063548830626763 : Unit := ()
def PySem.W.Fast.tw11125805696876518329 : Unit := ()
def PySem.W.Fast.tw8746286009216024595 : Unit := ()
def PySem.W.Fast.tw9670032428159062649 : Unit := ()
def PySem.W.Fast.tw6919552389429168958 : Unit := ()
def PySem.W.Fast.tw3034480158633790154 : Unit := ()
def PySem.W.Fast.tw16965990290606811133 : Unit := ()
def PySem.W.Fast.tw12148024929935845505 : Unit := ()
def PySem.W.Fast.tw3787353066241704786 : Unit := ()
def PySem.W.Fast.tw18189522053937960701 : Unit := ()
def PySem.W.Fast.tw9208019961412480579 : Unit := ()
def PySem.W.Fast.tw15518124354205722162 : Unit := ()
def PySem.W.Fast.tw16080345945269378127 : Unit := ()
def PySem.W.Fast.tw11195306813016106301 : Unit := ()
def PySem.W.Fast.tw3228368722156048154 : Unit := ()
def PySem.W.Fast.tw2056883920253964460 : Unit := ()
def PySem.W.Fast.tw18062755768105451168 : Unit := ()
def PySem.W.Fast.tw4075707073561581556 : Unit := ()
def PySem.W.Fast.tw3650504642291037008 : Unit := ()
def PySem.W.Fast.tw1497429719258279963 : Unit := ()
def PySem.W.Fast.tw2253083891587265106 : Unit := ()
def PySem.W.Fast.tw8205978664155180770 : Unit := ()
def PySem.W.Fast.tw7023027349609349387 : Unit := ()
def PySem.W.Fast.tw14172719852458416038 : Unit := ()
def PySem.W.Fast.tw12059818388322951698 : Unit := ()
def PySem.W.Fast.tw11139706303010868483 : Unit := ()
def PySem.W.Fast.tw5817383632015587625 : Unit := ()
def PySem.W.Fast.tw15077924781901609929 : Unit := ()
def PySem.W.Fast.tw5151016063480625353 : Unit := ()
def PySem.W.Fast.tw5432791845259981575 : Unit := ()
def PySem.W.Fast.tw12710384305039595937 : Unit := ()
def PySem.W.Fast.tw5494862255214948566 : Unit := ()
def PySem.W.Fast.tw10425219480250098803 : Unit := ()
def PySem.W.Fast.tw18191843162344111542 : Unit := ()
def PySem.W.Fast.tw8460846382898258160 : Unit := ()
def PySem.W.Fast.tw3811516656977532761 : Unit := ()
def PySem.W.Fast.tw10780340990202872405 : Unit := ()
def PySem.W.Fast.tw15694145785415664151 : Unit := ()
def PySem.W.Fast.tw10049536069209985883 : Unit := ()
def PySem.W.Fast.tw3039099286300549984 : Unit := ()
def PySem.W.Fast.tw9255992118829358583 : Unit := ()
def PySem.W.Fast.tw13565384198687240680 : Unit := ()
def PySem.W.Fast.tw886191953221362336 : Unit := ()
def PySem.W.Fast.tw8759486876930582006 : Unit := ()
def PySem.W.Fast.tw14545624223553533417 : Unit := ()
def PySem.W.Fast.tw227761651735997627 : Unit := ()
def PySem.W.Fast.tw14476088784740109937 : Unit := ()
def PySem.W.Fast.tw18056521037055616026 : Unit := ()
def PySem.W.Fast.tw6473656857144339834 : Unit := ()
def PySem.W.Fast.tw4779450290579154147 : Unit := ()
def PySem.W.Fast.tw8323475451665943193 : Unit := ()
def PySem.W.Fast.tw12698650763571426890 : Unit := ()
def PySem.W.Fast.tw7367282241409362 : Unit := ()
def PySem.W.Fast.tw12396888798736055927 : Unit := ()
def PySem.W.Fast.tw17007613509645026912 : Unit := ()
def PySem.W.Fast.tw7852791713889032265 : Unit := ()
def PySem.W.Fast.tw13694998325274972284 : Unit := ()
def PySem.W.Fast.tw10420098330050728968 : Unit := ()
def PySem.W.Fast.tw3298742494160676747 : Unit := ()
def PySem.W.Fast.tw3335312558177043313 : Unit := ()
def PySem.W.Fast.tw15629735736227014786 : Unit := ()
def PySem.W.Fast.tw8935069034357988306 : Unit := ()
def PySem.W.Fast.tw11952117568559501691 : Unit := ()
def PySem.W.Fast.tw1462600031484200183 : Unit := ()
def PySem.W.Fast.tw2264712773763796252 : Unit := ()
def PySem.W.Fast.tw10533072886527979959 : Unit := ()
def PySem.W.Fast.tw684483800822338202 : Unit := ()
def PySem.W.Fast.tw13844231862073928280 : Unit := ()
def PySem.W.Fast.tw13736032268679378926 : Unit := ()
def PySem.W.Fast.tw6745209458638187240 : Unit := ()
def PySem.W.Fast.tw14361158318612238590 : Unit := ()
def PySem.W.Fast.tw11456166835819678898 : Unit := ()
def PySem.W.Fast.tw16447389460198094471:Unit:=()
def PySem.W.Fast.tw10692565313354749302:Unit:=()
def PySem.W.Fast.tw16313968484720222244:Unit:=()
def PySem.W.Fast.tw7050625646983558454:Unit:=()
def PySem.W.Fast.tw3285633013610072733:Unit:=()
def PySem.W.Fast.tw8351716989120295979:Unit:=()
def PySem.W.Fast.tw13307757762353237851:Unit:=()
def PySem.W.Fast.tw4426080622618771114:Unit:=()
def PySem.W.Fast.tw3763831210902668188:Unit:=()
def PySem.W.Fast.tw6832584926239528453:Unit:=()
def PySem.W.Fast.tw14300681339156205737:Unit:=()
def PySem.W.Fast.tw5451712276998127828:Unit:=()
def PySem.W.Fast.tw1987395857597914005:Unit:=()
def PySem.W.Fast.tw4192042237874810309:Unit:=()
def PySem.W.Fast.tw439666145233905189:Unit:=()
def PySem.W.Fast.tw11604197250828319511:Unit:=()
def PySem.W.Fast.tw11795290142386955578:Unit:=()
def PySem.W.Fast.tw7460424511221438227:Unit:=()
def PySem.W.Fast.tw2725910883217688901:Unit:=()
def PySem.W.Fast.tw12359734935984205832:Unit:=()
def PySem.W.Fast.tw3327674899101035520:Unit:=()
def PySem.W.Fast.tw9850895524115566012:Unit:=()
def PySem.W.Fast.tw7337961047701558504:Unit:=()
def PySem.W.Fast.tw8658401148782534108:Unit:=()
set_option maxRecDepth 100000 in
set_option maxHeartbeats 0 in
theorem PySem.Challenge.cw_wapentake_k63_whole_patterns_asked_again_holds : PySem.Challenge.rw_wapentake_k63_whole_patterns_asked_again.Holds := by
  w_on; o_law; k_head; (case hw => w_witness2)
  k_fill
  refine' K63.walk (l := PySem.Challenge.rw_wapentake_k63_whole_patterns_asked_again) (cc := _) (Pt := _) (cx2 := _) (P2 := _) (cx3 := _) (P3 := _) rfl rfl (fun w h Y => PySem.W.km_in_of Y) ?hT ?hC0 ?hK ?hT2 ?hC02 ?hK2 ?hT3 ?hC03 ?hK3 ?F
  case F =>
    intro w mg fa h KX G hmg
    refine' K63.all_mk KX G hmg ?lZ ?hZ ?hH ?lY2 ?hY2 ?hI2 ?lY3 ?hY3 ?hI3 ?hN_Pt_P2 ?hN_Pt_P3 ?hN_P2_P3 ?a1 ?l1 ?c1 ?k1 ?a2 ?l2 ?c2 ?k2 ?a3 ?l3 ?c3 ?k3 ?a4 ?l4 ?c4 ?k4 ?a5 ?l5 ?c5 ?k5 ?a6 ?l6 ?c6 ?k6 ?a7 ?l7 ?c7 ?k7 ?a8 ?l8 ?c8 ?k8 ?a9 ?l9 ?c9 ?k9 ?a10 ?l10 ?c10 ?k10 ?a11 ?l11 ?c11 ?k11 ?a12 ?l12 ?c12 ?k12 ?a13 ?l13 ?c13 ?k13 ?a14 ?l14 ?c14 ?k14 ?a15 ?l15 ?c15 ?k15 ?a16 ?l16 ?c16 ?k16 ?a17 ?l17 ?c17 ?k17 ?a18 ?l18 ?c18 ?k18 ?a19 ?l19 ?c19 ?k19 ?a20 ?l20 ?c20 ?k20 ?a21 ?l21 ?c21 ?k21 ?a22 ?l22 ?c22 ?k22 ?a23 ?l23 ?c23 ?k23 ?a24 ?l24 ?c24 ?k24 ?a25 ?l25 ?c25 ?k25 ?a26 ?l26 ?c26 ?k26 ?a27 ?l27 ?c27 ?k27 ?a28 ?l28 ?c28 ?k28 ?a29 ?l29 ?c29 ?k29 ?a30 ?l30 ?c30 ?k30 ?a31 ?l31 ?c31 ?k31 ?a32 ?l32 ?c32 ?k32 ?a33 ?l33 ?c33 ?k33 ?a34 ?l34 ?c34 ?k34 ?a35 ?l35 ?c35 ?k35 ?a36 ?l36 ?c36 ?k36 ?a37 ?l37 ?c37 ?k37 ?a38 ?l38 ?c38 ?k38 ?a39 ?l39 ?c39 ?k39 ?a40 ?l40 ?c40 ?k40 ?a41 ?l41 ?c41 ?k41 ?a42 ?l42 ?c42 ?k42 ?a43 ?l43 ?c43 ?k43 ?a44 ?l44 ?c44 ?k44 ?a45 ?l45 ?c45 ?k45 ?a46 ?l46 ?c46 ?k46 ?a47 ?l47 ?c47 ?k47 ?a48 ?l48 ?c48 ?k48 ?a49 ?l49 ?c49 ?k49 ?a50 ?l50 ?c50 ?k50 ?mW ?oW ?vW ?saW ?gaW ?gnW ?nwW ?inW ?ifW ?kpW ?liW ?cdW ?keW ?mC ?oC ?vC ?saC ?gaC ?gnC ?nwC ?inC ?ifC ?kpC ?liC ?cdC ?keC ?mS ?oS ?vS ?saS ?gaS ?gnS ?nwS ?inS ?ifS ?kpS ?liS ?cdS ?keS ?mU ?oU ?vU ?saU ?gaU ?gnU ?nwU ?inU ?ifU ?kpU ?liU ?cdU ?keU ?uC ?uS ?wg ?wr ?wf ?gv ?uU ?tC ?t1 ?t2 ?t3 ?t4 ?t5 ?t6 ?n_questions ?n_kept ?n_both ?ha0 ?hf0 ?hl0 ?hc0 ?hk0 ?ha1 ?hf1 ?hl1 ?hc1 ?hk1 ?ha2 ?hf2 ?hl2 ?hc2 ?hk2 ?ha3 ?hf3 ?hl3 ?hc3 ?hk3 ?ha4 ?hf4 ?hl4 ?hc4 ?hk4 ?ha5 ?hf5 ?hl5 ?hc5 ?hk5 ?gq ?gs ?z0 ?z1 ?z2 ?z3 ?z4 ?z5 ?z6 ?z7 ?z8 ?z9 ?z10 ?z11 ?z12 ?z13 ?z14 ?z15
    (case a1 => k_is)
    (case l1 => k_is)
    (case c1 => k_is)
    (case k1 => k_is)
    (case a2 => k_is)
    (case l2 => k_is)
    (case c2 => k_is)
    (case k2 => k_is)
    (case a3 => k_is)
    (case l3 => k_is)
    (case c3 => k_is)
    (case k3 => k_is)
    (case a4 => k_is)
    (case l4 => k_is)
    (case c4 => k_is)
    (case k4 => k_is)
    (case a5 => k_is)
    (case l5 => k_is)
    (case c5 => k_is)
    (case k5 => k_is)
    (case a6 => k_is)
    (case l6 => k_is)
    (case c6 => k_is)
    (case k6 => k_is)
    (case a7 => k_is)
    (case l7 => k_is)
    (case c7 => k_is)
    (case k7 => k_is)
    (case a8 => k_is)
    (case l8 => k_is)
    (case c8 => k_is)
    (case k8 => k_is)
    (case a9 => k_is)
    (case l9 => k_is)
    (case c9 => k_is)
    (case k9 => k_is)
    (case a10 => k_is)
    (case l10 => k_is)
    (case c10 => k_is)
    (case k10 => k_is)
    (case a11 => k_is)
    (case l11 => k_is)
    (case c11 => k_is)
    (case k11 => k_is)
    (case a12 => k_is)
    (case l12 => k_is)
    (case c12 => k_is)
    (case k12 => k_is)
    (case a13 => k_is)
    (case l13 => k_is)
    (case c13 => k_is)
    (case k13 => k_is)
    (case a14 => k_is)
    (case l14 => k_is)
    (case c14 => k_is)
    (case k14 => k_is)
    (case a15 => k_is)
    (case l15 => k_is)
    (case c15 => k_is)
    (case k15 => k_is)
    (case a16 => k_is)
    (case l16 => k_is)
    (case c16 => k_is)
    (case k16 => k_is)
    (case a17 => k_is)
    (case l17 => k_is)
    (case c17 => k_is)
    (case k17 => k_is)
    (case a18 => k_is)
    (case l18 => k_is)
    (case c18 => k_is)
    (case k18 => k_is)
    (case a19 => k_is)
    (case l19 => k_is)
    (case c19 => k_is)
    (case k19 => k_is)
    (case a20 => k_is)
    (case l20 => k_is)
    (case c20 => k_is)
    (case k20 => k_is)
    (case a21 => k_is)
    (case l21 => k_is)
    (case c21 => k_is)
    (case k21 => k_is)
    (case a22 => k_is)
    (case l22 => k_is)
    (case c22 => k_is)
    (case k22 => k_is)
    (case a23 => k_is)
    (case l23 => k_is)
    (case c23 => k_is)
    (case k23 => k_is)
    (case a24 => k_is)
    (case l24 => k_is)
    (case c24 => k_is)
    (case k24 => k_is)
    (case a25 => k_is)
    (case l25 => k_is)
    (case c25 => k_is)
    (case k25 => k_is)
    (case a26 => k_is)
    (case l26 => k_is)
    (case c26 => k_is)
    (case k26 => k_is)
    (case a27 => k_is)
    (case l27 => k_is)
    (case c27 => k_is)
    (case k27 => k_is)
    (case a28 => k_is)
    (case l28 => k_is)
    (case c28 => k_is)
    (case k28 => k_is)
    (case a29 => k_is)
    (case l29 => k_is)
    (case c29 => k_is)
    (case k29 => k_is)
    (case a30 => k_is)
    (case l30 => k_is)
    (case c30 => k_is)
    (case k30 => k_is)
    (case a31 => k_is)
    (case l31 => k_is)
    (case c31 => k_is)
    (case k31 => k_is)
    (case a32 => k_is)
    (case l32 => k_is)
    (case c32 => k_is)
    (case k32 => k_is)
    (case a33 => k_is)
    (case l33 => k_is)
    (case c33 => k_is)
    (case k33 => k_is)
    (case a34 => k_is)
    (case l34 => k_is)
    (case c34 => k_is)
    (case k34 => k_is)
    (case a35 => k_is)
    (case l35 => k_is)
    (case c35 => k_is)
    (case k35 => k_is)
    (case a36 => k_is)
    (case l36 => k_is)
    (case c36 => k_is)
    (case k36 => k_is)
    (case a37 => k_is)
    (case l37 => k_is)
    (case c37 => k_is)
    (case k37 => k_is)
    (case a38 => k_is)
    (case l38 => k_is)
    (case c38 => k_is)
    (case k38 => k_is)
    (case a39 => k_is)
    (case l39 => k_is)
    (case c39 => k_is)
    (case k39 => k_is)
    (case a40 => k_is)
    (case l40 => k_is)
    (case c40 => k_is)
    (case k40 => k_is)
    (case a41 => k_is)
    (case l41 => k_is)
    (case c41 => k_is)
    (case k41 => k_is)
    (case a42 => k_is)
    (case l42 => k_is)
    (case c42 => k_is)
    (case k42 => k_is)
    (case a43 => k_is)
    (case l43 => k_is)
    (case c43 => k_is)
    (case k43 => k_is)
    (case a44 => k_is)
    (case l44 => k_is)
    (case c44 => k_is)
    (case k44 => k_is)
    (case a45 => k_is)
    (case l45 => k_is)
    (case c45 => k_is)
    (case k45 => k_is)
    (case a46 => k_is)
    (case l46 => k_is)
    (case c46 => k_is)
    (case k46 => k_is)
    (case a47 => k_is)
    (case l47 => k_is)
    (case c47 => k_is)
    (case lZ => k_is)
    (case hZ => rfl)
    (case hH => kernel_rfl)
    (case k47 => k_is)
    (case a48 => k_is)
    (case l48 => k_is)
    (case c48 => k_is)
    (case lY2 => k_is)
    (case hY2 => rfl)
    (case hI2 => kernel_rfl)
    (case k48 => k_is)
    (case a49 => k_is)
    (case l49 => k_is)
    (case c49 => k_is)
    (case lY3 => k_is)
    (case hY3 => rfl)
    (case hI3 => kernel_rfl)
    (case k49 => k_is)
    (case a50 => k_is)
    (case l50 => k_is)
    (case c50 => k_is)
    (case k50 => k_is)
    (case mW => k_is)
    (case oW => k_is)
    (case vW => exact ⟨by decide +kernel, by decide +kernel, by decide +kernel, by decide +kernel, by decide +kernel, fun _ => rfl⟩)
    (case saW => k_is)
    (case gaW => k_is)
    (case gnW => k_is)
    (case nwW => k_is)
    (case inW => k_is)
    (case ifW => k_is)
    (case kpW => k_is)
    (case liW => k_is)
    (case cdW => k_is)
    (case keW => k_is)
    (case mC => k_is)
    (case oC => k_is)
    (case vC => exact ⟨by decide +kernel, by decide +kernel, by decide +kernel, by decide +kernel, by decide +kernel, fun _ => rfl⟩)
    (case saC => k_is)
    (case gaC => k_is)
    (case gnC => k_is)
    (case nwC => k_is)
    (case inC => k_is)
    (case ifC => k_is)
    (case kpC => k_is)
    (case liC => k_is)
    (case cdC => k_is)
    (case keC => k_is)
    (case mS => k_is)
    (case oS => k_is)
    (case vS => exact ⟨by decide +kernel, by decide +kernel, by decide +kernel, by decide +kernel, by decide +kernel, fun _ => rfl⟩)
    (case saS => k_is)
    (case gaS => k_is)
    (case gnS => k_is)
    (case nwS => k_is)
    (case inS => k_is)
    (case ifS => k_is)
    (case kpS => k_is)
    (case liS => k_is)
    (case cdS => k_is)
    (case keS => k_is)
    (case mU => k_is)
    (case oU => k_is)
    (case vU => exact ⟨by decide +kernel, by decide +kernel, by decide +kernel, by decide +kernel, by decide +kernel, fun _ => rfl⟩)
    (case saU => k_is)
    (case gaU => k_is)
    (case gnU => k_is)
    (case nwU => k_is)
    (case inU => k_is)
    (case ifU => k_is)
    (case kpU => k_is)
    (case liU => k_is)
    (case cdU => k_is)
    (case keU => k_is)
    (case uC => decide +kernel)
    (case uS => decide +kernel)
    (case wg => k_is)
    (case wr => k_is)
    (case wf => k_is)
    (case gv => k_is)
    (case uU => decide +kernel)
    (case tC => k_is)
    (case t1 => k_is)
    (case t2 => k_is)
    (case t3 => k_is)
    (case t4 => k_is)
    (case t5 => k_is)
    (case t6 => k_is)
    (case n_questions => k_is)
    (case n_kept => k_is)
    (case n_both => k_is)
    (case ha0 => k_is)
    (case hf0 => k_is)
    (case hl0 => k_is)
    (case hc0 => k_is)
    (case hk0 => k_is)
    (case ha1 => k_is)
    (case hf1 => k_is)
    (case hl1 => k_is)
    (case hc1 => k_is)
    (case hk1 => k_is)
    (case ha2 => k_is)
    (case hf2 => k_is)
    (case hl2 => k_is)
    (case hc2 => k_is)
    (case hk2 => k_is)
    (case ha3 => k_is)
    (case hf3 => k_is)
    (case hl3 => k_is)
    (case hc3 => k_is)
    (case hk3 => k_is)
    (case ha4 => k_is)
    (case hf4 => k_is)
    (case hl4 => k_is)
    (case hc4 => k_is)
    (case hk4 => k_is)
    (case ha5 => k_is)
    (case hf5 => k_is)
    (case hl5 => k_is)
    (case hc5 => k_is)
    (case hk5 => k_is)
    (case gq => k_is)
    (case gs => k_is)
    (case z0 => k_is)
    (case z1 => k_is)
    (case z2 => k_is)
    (case z3 => k_is)
    (case z4 => k_is)
    (case z5 => k_is)
    (case z6 => k_is)
    (case z7 => k_is)
    (case z8 => k_is)
    (case z9 => k_is)
    (case z10 => k_is)
    (case z11 => k_is)
    (case z12 => k_is)
    (case z13 => k_is)
    (case z14 => k_is)
    (case z15 => k_is)
    (case hN_Pt_P2 => decide)
    (case hN_Pt_P3 => decide)
    (case hN_P2_P3 => decide)
  case hT => exact fun w h Y => PySem.W.km_tabs_of Y _ (by decide)
  case hC0 => intro w; kernel_rfl
  case hK => intro w; kernel_rfl
  case hT2 => exact fun w h Y => PySem.W.km_tabs_of Y _ (by decide)
  case hC02 => intro w; kernel_rfl
  case hK2 => intro w; kernel_rfl
  case hT3 => exact fun w h Y => PySem.W.km_tabs_of Y _ (by decide)
  case hC03 => intro w; kernel_rfl
  case hK3 => intro w; kernel_rfl
#print axioms PySem.Challenge.cw_wapentake_k63_whole_patterns_asked_again_holds
