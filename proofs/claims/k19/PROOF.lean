import PyProof.Rows.All
import Wide.All
import OpenK.AllK
import Wide.FinOn
import Lean
import PyProof.EqAt
import PyProof.EqKinds
import PyProof.TupleCall
import PySem.Challenge.RW_wapentake_k19_whole_bundles_all_turned_a
import KE.KUnpack
import PyProof.Draws
import PyProof.EnumMake
import PyProof.Rows.EnumRows
import KE.KDictSum
import PyProof.Rows.SeqCalls
import KE.KPairRows
import PyProof.StrLawsIn
import PyProof.NeKinds
import PyProof.Rows.EqBoolInt
import PyProof.StrBlockH
import PyProof.FString5
import PyProof.SliceList
import KE.KLam
import KE.KNestM
import PyProof.DictIter
import PyProof.DictWalks
import KE.KDictOf
import PyProof.AttrMissHeap
import PyProof.ConsumeS
import PyProof.DictList
import PyProof.Cells
import PyProof.Rows.SortShell
import PyProof.AutoListH
set_option Elab.async false
set_option linter.all false
set_option maxRecDepth 100000
set_option maxHeartbeats 4000000
namespace L2
open PySem PySem.Spec PyProof.Rows
abbrev Key:=Sum Int Str
def qK6:Key->Value->Bool
 | .inl k,v=>Value.isInt k v
 | .inr x,v=>Value.isStrOf x v
def keyH (w:World):Key->Int
 | .inl k=>hashInt k
 | .inr x=>hashStr w x
theorem q47:∀{k:Key}{v:Value},qK6 k v=true->(∃ i t,k=Sum.inl i/\v=Value.int i t)∨(∃ x t,k=Sum.inr x/\v=Value.str x t)
 | .inl i,v,h=>by
  obtain ⟨t,e⟩:=Value.isInt_shape (k:=i) (v:=v) h
  exact .inl ⟨i,t,rfl,e⟩
 | .inr x,v,h=>by
  obtain ⟨t,e⟩:=Value.isStrOf_shape (x:=x) (v:=v) h
  exact .inr ⟨x,t,rfl,e⟩
theorem qT4 (i:Int)(t:Tok):qK6 (.inl i) (.int i t)=true:=by simp [qK6,Value.isInt]
theorem qT3 (x:Str)(t:Tok):qK6 (.inr x) (.str x t)=true:=by simp [qK6,Value.isStrOf]
theorem key_ll (a b:Int):decide ((Sum.inl a:Key)=Sum.inl b)=(a == b):=by
 by_cases e:a=b
 ·subst e; simp
 ·have h:¬ (Sum.inl a:Key)=Sum.inl b:=λq=>e (Sum.inl.inj q)
  rw [decide_eq_false h]
  exact (beq_eq_false_iff_ne.mpr e).symm
theorem key_rr (a b:Str):decide ((Sum.inr a:Key)=Sum.inr b)=decide (a=b):=by
 by_cases e:a=b
 ·subst e; simp
 ·have h:¬ (Sum.inr a:Key)=Sum.inr b:=λq=>e (Sum.inr.inj q)
  rw [decide_eq_false h,decide_eq_false e]
theorem key_lr (a:Int)(b:Str):decide ((Sum.inl a:Key)=Sum.inr b)=false:=decide_eq_false (λq=>nomatch q)
theorem key_rl (a:Str)(b:Int):decide ((Sum.inr a:Key)=Sum.inl b)=false:=decide_eq_false (λq=>nomatch q)
def q40 (prog:Program)(w:World):PySem.KeyKind prog w Key where
 is:=qK6
 hash:=keyH w
 inj:=λv a b ha hb=>by
  rcases q47 ha with ⟨i,t,rfl,rfl⟩ | ⟨x,t,rfl,rfl⟩
  ·rcases q47 hb with ⟨j,u,rfl,e⟩ | ⟨y,u,rfl,e⟩
   ·injection e with e1 _; rw [e1]
   ·exact nomatch e
  ·rcases q47 hb with ⟨j,u,rfl,e⟩ | ⟨y,u,rfl,e⟩
   ·exact nomatch e
   ·injection e with e1 _; rw [e1]
 byValue:=λk v h=>by
  rcases q47 h with ⟨i,t,rfl,rfl⟩ | ⟨x,t,rfl,rfl⟩ <;> rfl
 pyHash:=λhv h=>by
  rcases q47 hv with ⟨i,t,rfl,rfl⟩ | ⟨x,t,rfl,rfl⟩
  ·exact wpAny_pyHash_int h
  ·exact wpAny_pyHash_str h
 eqBool:=λhu hv h=>by
  rcases q47 hu with ⟨i,t,rfl,rfl⟩ | ⟨x,t,rfl,rfl⟩
  ·rcases q47 hv with ⟨j,u,rfl,rfl⟩ | ⟨y,u,rfl,rfl⟩
   ·rw [key_ll] at h; exact wpAny_eqBool_int h
   ·rw [key_lr] at h; exact SeqAt.EqAt.int_str i t y u _ _ _ _ h
  ·rcases q47 hv with ⟨j,u,rfl,rfl⟩ | ⟨y,u,rfl,rfl⟩
   ·rw [key_rl] at h; exact SeqAt.EqAt.str_int x t j u _ _ _ _ h
   ·rw [key_rr] at h; exact wpAny_eqBool_str h
 «strs» := λk x t v h=>by
  rcases q47 h with ⟨i,u,rfl,e⟩ | ⟨y,u,rfl,e⟩
  ·exact nomatch e
  ·injection e with e1 _
   subst e1
   cases v <;> rfl
theorem qC5 (prog:Program)(w:World)(i:Int)(t:Tok):(q40 prog w).is (.inl i) (.int i t)=true:=qT4 i t
theorem qC4 (prog:Program)(w:World)(x:Str)(t:Tok):(q40 prog w).is (.inr x) (.str x t)=true:=qT3 x t
inductive V where
 | non | bl (b:Bool) | int (i:Int) | str (x:Str) | byt (b:Array UInt8) | flt (b:UInt64) | ref (a:Addr) | ty (n:String)
 deriving DecidableEq
def RelV:V->Value->Prop
 | .non,u=>u=Value.none
 | .bl b,u=>u=Value.bool b
 | .int i,u=>∃ t,u=Value.int i t
 | .str x,u=>∃ t,u=Value.str x t
 | .byt b,u=>∃ t,u=Value.bytes b t
 | .flt b,u=>∃ t,u=Value.float b t
 | .ref a,u=>u=Value.ref a
 | .ty n,u=>u=Value.type n
abbrev Vals:List V->List Value->Prop:=Paired RelV
theorem Vals.length {xs:List V}{us:List Value}(r:Vals xs us):xs.length=us.length:=Paired.length r
theorem Vals.get:∀{xs:List V}{us:List Value}{i:Nat}{x:V},Vals xs us->xs[i]? = some x->∃ u,us[i]? = some u/\RelV x u
 | _,_,_,_,.nil,e=>by simp at e
 | _,_,0,_,.cons r _,e=>by simp at e; subst e; exact ⟨_,rfl,r⟩
 | _,_,i + 1,x,.cons _ t,e=>by
  obtain ⟨u,h1,h2⟩:=Vals.get (i:=i) (x:=x) t (by simpa using e)
  exact ⟨u,by simpa using h1,h2⟩
theorem Vals.append:∀{xs ys:List V}{us ws:List Value},Vals xs us->Vals ys ws->Vals (xs ++ ys) (us ++ ws)
 | _,_,_,_,.nil,s=>s
 | _,_,_,_,.cons r t,s=>.cons r (Vals.append t s)
theorem Vals.take:∀{xs:List V}{us:List Value}(n:Nat),Vals xs us->Vals (xs.take n) (us.take n)
 | _,_,0,_=>.nil
 | _,_,_ + 1,.nil=>.nil
 | _,_,n + 1,.cons r t=>.cons r (Vals.take n t)
theorem Vals.drop:∀{xs:List V}{us:List Value}(n:Nat),Vals xs us->Vals (xs.drop n) (us.drop n)
 | _,_,0,r=>r
 | _,_,_ + 1,.nil=>.nil
 | _,_,n + 1,.cons _ t=>Vals.drop n t
def RelO:Option V->Option Value->Prop
 | some v,some u=>RelV v u
 | none,none=>True
 | _,_=>False
def KV {κ:Type}:List (κ×V)->List (κ×Value)->Prop:=Paired λ(p:κ×V) (q:κ×Value)=>p.1=q.1/\RelV p.2 q.2
def kV:Key->V
 | .inl i=>.int i
 | .inr x=>.str x
inductive HO where
 /-- a list -/
 | lst (xs:List V)
 /-- a tuple (never changes) -/
 | tup (xs:List V)
 /-- a dict whose keys are ints and texts; one whose keys are tuples of ints and texts (the empty one is both) -/
 | dK (kvs:List (Key×V)) | dT (kvs:List (List Key×V))
 /-- a set of ints: its members,its size -/
 | set (S:Int->Bool) (n:Nat)
 /-- an instance of the class at C,its dict at dx,its attributes -/
 | ins (C dx:Addr) (fs:List (Str×V))
 /-- the dict of the instance at x -/
 | own (x:Addr)
 /-- the dict of an exception -/
 | xd (fs:List (Str×V))
 /-- a bound method,f of x -/
 | met (f x:Addr)
 /-- a range object lo,lo + 1,.. below hi -/
 | rng (lo hi:Int)
 /-- a thing that is known to the object (the script; a dict while a loop walks it): read,never written while it is so -/
 | frz (o:Obj) (u:HO)
 /-- a code object's table -/
 | tbl (ps:Array Value)
 /-- any other thing,by what is true of its one object (a def of one's own: SetO a S n:=HO.ext λh=>..) -/
 | ext (φ:Heap->Prop)
abbrev Hp:=Addr->Option HO
def upd (H:Hp)(a:Addr)(o:HO):Hp:=λb=>if b=a then some o else H b
theorem q01 {H:Hp}{a:Addr}{o:HO}:upd H a o a=some o:=by unfold upd; rw [if_pos rfl]
theorem q07 {H:Hp}{a b:Addr}{o:HO}(h:b≠a):upd H a o b=H b:=by unfold upd; rw [if_neg h]
theorem qC3 {H:Hp}{a b:Addr}{o u:HO}(h:H a=some o)(h':H b=some u)(d:o≠u):a≠b:=by
 intro e; subst e; rw [h] at h'; exact d (Option.some.inj h')
theorem q16 {H:Hp}{a b:Addr}{o:HO}(h:H a=some o)(h':H b=none):a≠b:=by
 intro e; subst e; rw [h] at h'; cases h'
section
variable (P:Program) (w:World)
def ObjOk (H:Hp)(h:Heap)(a:Addr):HO->Prop
 | .lst xs=>xs.length<=sizeLine/\∃(its:List Value) (n:Nat),Vals xs its/\h.get? a=some { cls:=.type "list",data:=.seq its.toArray n }
 | .tup xs=>xs.length<=sizeLine/\∃ its:List Value,Vals xs its/\IsTup h a its.toArray
 | .dK kvs=>kvs.length<=sizeLine/\(a == sysModules)=false/\∃ vs,KV kvs vs/\h.DictOf (q40 P w) a vs
 | .dT kvs=>kvs.length<=sizeLine/\(a == sysModules)=false/\∃ xs:List (List Key×Addr×Value),
   Paired (λ(p:List Key×V) (q:List Key×Addr×Value)=>p.1=q.1/\H q.2.1=some (.tup (p.1.map kV))/\RelV p.2 q.2.2) kvs xs /\
   ∃ o es ep,h.get? a=some o/\o.ExactDict/\o.data=.dict es ep/\es.toList=xs.map (entryOfKey (tupleKind (q40 P w)))/\(xs.map (·.1)).Nodup
 | .set S n=>h.SetOf (intKind P w) a S n
 | .ins C dx fs=>H dx=some (.own a)/\fs.length<=1000/\dx≠a/\h.get? a=some (PySem.W.instObj C dx) /\
   ∃ mA,h.Ns1 dx mA/\(∀ f,RelO (fs.lookup f) (mA f))/\PySem.Within mA (fs.map (·.1))
 | .own _=>∃ o,h.get? a=some o
 | .xd fs=>∃ mA,h.Ns1 a mA/\∀ f,RelO (fs.lookup f) (mA f)
 | .rng lo hi=>∃ t u v,h.get? a=some { cls:=.type "range",data:=.fields #[.int lo t,.int hi u,.int 1 v] }
 | .frz o u=>h.get? a=some o/\ObjOk H h a u
 | .tbl ps=>h.get? a=some { cls:=.none,data:=.fields ps }
 | .met f x=>h.get? a=some (PySem.W.methodObj (.ref f) (.ref x))
 | .ext φ=>φ h/\(∃ o,h.get? a=some o)/\∀ h1 h2:Heap,φ h1->(∀ o,h1.get? a=some o->h2.get? a=some o)->φ h2
def HOk (H:Hp)(h:Heap):Prop:=∀ a o,H a=some o->ObjOk P w H h a o
end
section
variable {P:Program}{w:World}{H H':Hp}{h h':Heap}{a:Addr}{o:HO}
theorem ObjOk.lt (x:ObjOk P w H h a o):a < h.objs.size:=by
 cases o with
 | lst xs=>obtain ⟨_,_,_,_,e⟩:=x; exact Heap.lt_size e
 | tup xs=>obtain ⟨_,_,_,p⟩:=x; exact p.lt
 | dK kvs=>obtain ⟨_,_,_,_,o,_,_,e,_⟩:=x; exact Heap.lt_size e
 | dT kvs=>obtain ⟨_,_,_,_,o,_,_,e,_⟩:=x; exact Heap.lt_size e
 | set S n=>obtain ⟨o,_,_,_,e,_⟩:=x; exact Heap.lt_size e
 | ins C dx fs=>obtain ⟨_,_,_,e,_⟩:=x; exact Heap.lt_size e
 | own y=>obtain ⟨_,e⟩:=x; exact Heap.lt_size e
 | xd fs=>obtain ⟨_,⟨_,_,_,e,_⟩,_⟩:=x; exact Heap.lt_size e
 | rng lo hi=>obtain ⟨_,_,_,e⟩:=x; exact Heap.lt_size e
 | frz ob u=>obtain ⟨e,_⟩:=x; exact Heap.lt_size e
 | tbl ps=>exact Heap.lt_size (show h.get? a=some _ from x)
 | met f y=>exact Heap.lt_size (show h.get? a=some _ from x)
 | ext φ=>obtain ⟨_,⟨_,e⟩,_⟩:=x; exact Heap.lt_size e
theorem Paired.mapP {α β:Type}{F G:α->β->Prop}:∀{l₁:List α}{l₂:List β},Paired F l₁ l₂->(∀ a b,F a b->G a b)->Paired G l₁ l₂
 | _,_,.nil,_=>.nil
 | _,_,.cons r t,f=>.cons (f _ _ r) (Paired.mapP t f)
theorem ObjOk.stay (x:ObjOk P w H h a o)(k:∀ b u,(b=a∨H b=some (.own a))->h.get? b=some u->h'.get? b=some u)
  (ho:∀ b,H b=some (.own a)->H' b=some (.own a)) (ht:∀ b xs,H b=some (.tup xs)->H' b=some (.tup xs)):ObjOk P w H' h' a o:=by
 induction o with
 | lst xs=>obtain ⟨z,its,n,r,e⟩:=x; exact ⟨z,its,n,r,k _ _ (.inl rfl) e⟩
 | tup xs=>obtain ⟨z,its,r,ob,e,c⟩:=x; exact ⟨z,its,r,ob,k _ _ (.inl rfl) e,c⟩
 | dK kvs=>obtain ⟨z,y,vs,r,ob,es,ep,e,c⟩:=x; exact ⟨z,y,vs,r,ob,es,ep,k _ _ (.inl rfl) e,c⟩
 | dT kvs =>
  obtain ⟨z,y,xs,r,ob,es,ep,e,c⟩:=x
  exact ⟨z,y,xs,Paired.mapP r λp q z=>⟨z.1,ht _ _ z.2.1,z.2.2⟩,ob,es,ep,k _ _ (.inl rfl) e,c⟩
 | set S n=>obtain ⟨ob,es,ep,t,e,c⟩:=x; exact ⟨ob,es,ep,t,k _ _ (.inl rfl) e,c⟩
 | ins C dx fs =>
  obtain ⟨d,z,ne,e,mA,⟨od,es,ep,e2,c⟩,r⟩:=x
  exact ⟨ho _ d,z,ne,k _ _ (.inl rfl) e,mA,⟨od,es,ep,k _ _ (.inr d) e2,c⟩,r⟩
 | own y=>obtain ⟨ob,e⟩:=x; exact ⟨ob,k _ _ (.inl rfl) e⟩
 | xd fs=>obtain ⟨mA,⟨od,es,ep,e,c⟩,r⟩:=x; exact ⟨mA,⟨od,es,ep,k _ _ (.inl rfl) e,c⟩,r⟩
 | rng lo hi=>obtain ⟨t,u,v,e⟩:=x; exact ⟨t,u,v,k _ _ (.inl rfl) e⟩
 | frz ob u ih=>obtain ⟨e,q⟩:=x; exact ⟨k _ _ (.inl rfl) e,ih q⟩
 | tbl ps =>
  have e:h.get? a=some { cls:=.none,data:=.fields ps }:=x
  show h'.get? a=some { cls:=.none,data:=.fields ps }
  exact k a _ (.inl rfl) e
 | met f y =>
  have e:h.get? a=some (PySem.W.methodObj (.ref f) (.ref y)):=x
  show h'.get? a=some (PySem.W.methodObj (.ref f) (.ref y))
  exact k a _ (.inl rfl) e
 | ext φ=>obtain ⟨p,⟨o,e⟩,st⟩:=x; exact ⟨st _ _ p λo q=>k _ _ (.inl rfl) q,⟨o,k _ _ (.inl rfl) e⟩,st⟩
theorem HOk.lt (x:HOk P w H h)(e:H a=some o):a < h.objs.size:=(x a o e).lt
theorem HOk.fresh (x:HOk P w H h)(e:h.objs.size<=a):H a=none:=by
 cases q:H a with
 | none=>rfl
 | some u=>exact absurd (Nat.lt_of_lt_of_le (x.lt q) e) (Nat.lt_irrefl _)
theorem HOk.kept (x:HOk P w H h)(k:∀ b u,h.get? b=some u->h'.get? b=some u):HOk P w H h':=λa o e =>
 (x a o e).stay (λb u _ q=>k b u q) (λ_ q=>q) λ_ _ q=>q
theorem HOk.laid (x:HOk P w H h)(k:∀ b u,h.get? b=some u->h'.get? b=some u)(hp:h.objs.size<=a)(new:ObjOk P w (upd H a o) h' a o):HOk P w (upd H a o) h':=λb u e=>by
 have hn:=x.fresh hp
 by_cases hb:b=a
 ·subst hb; rw [q01] at e; cases e; exact new
 ·rw [q07 hb] at e
  exact (x b u e).stay (λc v _ q=>k c v q) (λc q=>by rw [q07 (q16 q hn)]; exact q) λc xs q=>by rw [q07 (q16 q hn)]; exact q
end
def Rd (H:Hp)(a:Addr)(u:HO):Prop:=H a=some u∨∃ o,H a=some (.frz o u)
theorem Rd.ok {P:Program}{w:World}{H:Hp}{h:Heap}{a:Addr}{u:HO}(r:Rd H a u)(x:HOk P w H h):ObjOk P w H h a u:=by
 rcases r with r | ⟨o,r⟩
 ·exact x a u r
 ·obtain ⟨_,q⟩:=x a _ r
  exact q
def Mut:Option HO->Prop
 | some (.lst _)=>True
 | some (.dK _)=>True
 | some (.dT _)=>True
 | some (.set _ _)=>True
 | some (.ins _ _ _)=>True
 | some (.ext _)=>True
 | _=>False
section
variable {P:Program}{w:World}{H:Hp}{h h':Heap}{x e:Addr}{o':HO}
theorem HOk.write (ok:HOk P w H h)(mu:Mut (H x))(he:e=x∨H e=some (.own x))(k:∀ b u,b≠e->h.get? b=some u->h'.get? b=some u)(heo:∃ u,h'.get? e=some u)
  (new:ObjOk P w (upd H x o') h' x o'):HOk P w (upd H x o') h':=λb u q=>by
 have nown:∀ c y,H c=some (.own y)->c≠x:=λc y r z=>by subst z; rw [r] at mu; exact mu
 have ntup:∀ c xs,H c=some (.tup xs)->c≠x:=λc xs r z=>by subst z; rw [r] at mu; exact mu
 by_cases hb:b=x
 ·subst hb; rw [q01] at q; cases q; exact new
 ·rw [q07 hb] at q
  by_cases hbe:b=e
  ·have q':H b=some (.own x):=by
    rcases he with z | z
    ·exact absurd (hbe.trans z) hb
    ·rw [hbe]; exact z
   rw [q] at q'; cases q'
   obtain ⟨v,hv⟩:=heo
   exact ⟨v,by rw [hbe]; exact hv⟩
  ·refine (ok b u q).stay (λc v hc r=>k c v ?_ r) (λc r=>by rw [q07 (nown c b r)]; exact r) λc xs r=>by rw [q07 (ntup c xs r)]; exact r
   rcases hc with rfl | hc
   ·exact hbe
   ·rintro rfl
    rcases he with z | z
    ·exact nown c b hc z
    ·rw [hc] at z; cases z; exact hb rfl
end
structure Un (fs ex:List Addr) (H H':Hp) (h h':Heap):Prop where
 keep:∀ b o,h.get? b=some o->H b=none->b∉fs->b∉ex->h'.get? b=some o
 slot:∀ b o,h.get? b=some o->H b=none->b∈fs->b∉ex->∃ sl,h'.get? b=some { o with slots:=sl }
 free:∀ b o,h.get? b=some o->H b=none->b∉ex->H' b=none
 there:∀ b o,h.get? b=some o->b∉ex->∃ o',h'.get? b=some o'
 tups:∀ b xs,H b=some (.tup xs)->H' b=some (.tup xs)
 frzs:∀ b o u,H b=some (.frz o u)->H' b=some (.frz o u)
 tbls:∀ b ps,H b=some (.tbl ps)->∃ more,H' b=some (.tbl (ps ++ more))
section
variable {fs fs' ex ex':List Addr}{H H1 H2:Hp}{h h1 h2 h':Heap}{a x e:Addr}{o:HO}
theorem Un.any (u:Un fs ex H H1 h h1){b:Addr}{ob:Obj}(q:h.get? b=some ob)(n:H b=none)(hx:b∉ex):∃ sl,h1.get? b=some { ob with slots:=sl }:=by
 by_cases hb:b∈fs
 ·exact u.slot b ob q n hb hx
 ·exact ⟨ob.slots,u.keep b ob q n hb hx⟩
theorem Un.kept (k:∀ b u,h.get? b=some u->h'.get? b=some u):Un fs ex H H h h' :=
 ⟨λb ob q _ _ _=>k b ob q,λb ob q _ _ _=>⟨ob.slots,k b ob q⟩,λ_ _ _ n _=>n,λb ob q _=>⟨ob,k b ob q⟩,λ_ _ q=>q,λ_ _ _ q=>q,λ_ ps q=>⟨#[],by rw [q]; simp⟩⟩
theorem Un.refl:Un fs ex H H h h:=Un.kept λ_ _ q=>q
theorem Un.laid (k:∀ b u,h.get? b=some u->h'.get? b=some u)(hp:h.objs.size<=a)(hn:H a=none):Un fs ex H (upd H a o) h h' where
 keep:=λb u q _ _ _=>k b u q
 slot:=λb u q _ _ _=>⟨u.slots,k b u q⟩
 free:=λb u q n _=>by rw [q07 (Nat.ne_of_lt (Nat.lt_of_lt_of_le (Heap.lt_size q) hp))]; exact n
 there:=λb u q _=>⟨u,k b u q⟩
 tups:=λb xs q=>by rw [q07 (q16 q hn)]; exact q
 frzs:=λb u xs q=>by rw [q07 (q16 q hn)]; exact q
 tbls:=λb ps q=>⟨#[],by rw [q07 (q16 q hn),q]; simp⟩
theorem Un.write (mu:Mut (H x))(he:e=x∨H e=some (.own x))(k:∀ b u,b≠e->h.get? b=some u->h'.get? b=some u)(heo:∃ u,h'.get? e=some u):Un fs ex H (upd H x o) h h':=by
 have hx:∀ b,H b=none->b≠x:=λb n z=>by subst z; rw [n] at mu; exact mu
 have hb:∀ b,H b=none->b≠e:=λb n z=>by
  subst z
  rcases he with r | r
  ·exact hx b n r
  ·rw [n] at r; cases r
 have hm:∀ b u,H b=some u->¬ Mut (some u)->b≠x:=λb u q nm z=>by subst z; rw [q] at mu; exact nm mu
 refine ⟨λb u q n _ _=>k b u (hb b n) q,λb u q n _ _=>⟨u.slots,k b u (hb b n) q⟩,λb u q n _=>by rw [q07 (hx b n)]; exact n,λb u q _=>?_,
  λb xs q=>by rw [q07 (hm b _ q λz=>z)]; exact q,λb u xs q=>by rw [q07 (hm b _ q λz=>z)]; exact q,λb ps q=>⟨#[],by rw [q07 (hm b _ q λz=>z),q]; simp⟩⟩
 by_cases hbe:b=e
 ·subst hbe; exact heo
 ·exact ⟨u,k b u hbe q⟩
end
def trk (h:Heap)(H:Hp):List Addr:=(List.range h.objs.size).filter λa=>(H a).isSome
def qX8 (h:Heap)(H:Hp):Heap:=PySem.W.hideAll h (trk h H)
theorem qU0 (h:Heap)(H:Hp):(qX8 h H).objs.size=h.objs.size:=PySem.W.hideAll_size _ _
theorem z46 {h:Heap}{H:Hp}{b:Addr}{o:Obj}(e:h.get? b=some o)(n:H b=none):(qX8 h H).get? b=some o :=
 PySem.W.hideAll_get _ e λhm=>by
  have q:(H b).isSome=true:=(List.mem_filter.mp hm).2
  rw [n] at q; simp at q
theorem of_hidT {h:Heap}{H:Hp}{b:Addr}{o:Obj}(e:(qX8 h H).get? b=some o):h.get? b=some o/\H b=none:=by
 have e':h.get? b=some o:=PySem.W.of_hideAll (trk h H) e
 refine ⟨e',?_⟩
 cases q:H b with
 | none=>rfl
 | some x =>
  have hm:b∈trk h H:=List.mem_filter.mpr ⟨List.mem_range.mpr (Heap.lt_size e'),by simp [q]⟩
  have z:(qX8 h H).get? b=none:=PySem.W.hideAll_none (trk h H) hm
  rw [z] at e; cases e
def allNews (g h:Heap)(L:Addr):List (Addr×Obj):=(List.range h.objs.size).filterMap λa=>if a=L∨(g.get? a).isSome=true then none else (h.get? a).map λo=>(a,o)
def qf8 (g h:Heap)(L d:Addr):List (Addr×Obj):=(allNews g h L).filter λp=>decide (p.1≠d)
structure Mod (K:PySem.W.Frag) (mg:Str->Option Value) (base:Heap):Prop where
 kin:K.In base
 glob:base.Ns mainGlobals mg
 blt:∃ mb,base.Ns builtinsNs mb/\∀ x:Str,x ≠ "__name__" -> mb x=bootBuiltins x
 nolimit:base.NoLimit
structure Cx where
 prog:Program
 w:World
 K:PySem.W.Frag
 mg:Str->Option Value
 base:Heap
 A:Around
 N:List Str
 s₀:Shared
 H₀:Hp
 env:Env
 outer:List Env
 stack:List Env
 ex:List Addr
 fn:Str->Bool
 calm:Bool
 pn:List (Addr×Obj)
 xe:Value->Shared->Prop
def frs (l:List Env):List Addr:=l.filterMap (·.frame)
abbrev Cx.fs (X:Cx):List Addr:=frs X.outer
def Vis (sc:Scope)(x:Str):Prop:=sc.names.lookup x=some .local∨sc.names.lookup x=some .cell∨sc.names.lookup x=some .free
def Loc (sc:Scope)(x:Str):Prop:=sc.names.lookup x=some .local∨sc.names.lookup x=some .cell
def Look (env:Env)(h:Heap)(m:Str->Option Value)(x:Str)(u:Value):Prop :=
 (env.kindOf x=some .local/\m x=some u)∨((env.kindOf x=some .cell∨env.kindOf x=some .free)/\∃ c,env.cells.lookup x=some c/\h.IsCell c (some u))
structure Cx.Ok (X:Cx):Prop where
 mod:Mod X.K X.mg X.base
 kind:X.env.scope.kind=.function
 glob:X.env.globals=mainGlobals
 blt:X.env.builtins=builtinsNs
 above:X.s₀.heap.objs.size<=X.env.locals
 inj:∀ x y c,X.env.cells.lookup x=some c->X.env.cells.lookup y=some c->x=y
 has:∀ x,(X.env.kindOf x=some .cell∨X.env.kindOf x=some .free)->∃ c,X.env.cells.lookup x=some c
 cab:∀ x c,X.fn x=true->X.env.cells.lookup x=some c->X.s₀.heap.objs.size<=c
 hd:X.calm=true->X.A.handled=none
 frames:X.A.frames=some X.stack
 stk:X.stack=X.outer∨(X.stack=X.env :: X.outer/\X.env.frame=some X.env.locals)
 exf:∀ b∈X.ex,b≠X.env.locals/\∀ x c,X.env.cells.lookup x=some c->c≠b
 bs:∀ b o,X.base.get? b=some o->X.s₀.heap.get? b=some o/\X.H₀ b=none
 bsz:X.base.objs.size<=X.s₀.heap.objs.size
 noex:∀ b o,X.base.get? b=some o->b∉X.ex
 exfs:∀ b∈X.ex,b∉X.fs
 funs:X.s₀.heap.FunFrames X.base X.outer
 frf:∀ b∈X.fs,X.H₀ b=none
structure Inv (X:Cx) (pins:List (Addr×Obj)) (σ:List (Option V)) (H:Hp) (s:Shared):Prop where
 ok:X.Ok
 os:s.os=X.s₀.os
 bare:AllBare s.gens
 base:Un X.fs X.ex X.H₀ H X.s₀.heap s.heap
 loc:∃ m,s.heap.Ns X.env.locals m/\∀(i:Nat) (x:Str) (v:V),X.N[i]? = some x->σ[i]? = some (some v)->Vis X.env.scope x->∃ u,RelV v u/\Look X.env s.heap m x u
 cell:∀ x c,X.env.cells.lookup x=some c->∃ v,s.heap.IsCell c v
 free:H X.env.locals=none
 freeC:∀ x c,X.env.cells.lookup x=some c->H c=none
 pin:∀ p∈X.pn ++ pins,s.heap.get? p.1=some p.2/\H p.1=none/\p.1≠X.env.locals/\p.1∉X.fs/\∀ v,p.2.data≠.cell v
 hok:HOk X.prog X.w H s.heap
 len:σ.length=X.N.length
section
variable {X:Cx}{pins:List (Addr×Obj)}{σ:List (Option V)}{H H':Hp}{s:Shared}{h':Heap}
theorem Cx.Ok.nofr (ok:X.Ok){b:Addr}{o:Obj}(e:X.base.get? b=some o):b∉X.fs:=λhb=>by
 have:=(ok.funs.mem hb).1
 rw [e] at this; cases this
theorem Inv.bs (I:Inv X pins σ H s):∀ b o,X.base.get? b=some o->s.heap.get? b=some o/\H b=none:=λb o e =>
 ⟨I.base.keep b o (I.ok.bs b o e).1 (I.ok.bs b o e).2 (I.ok.nofr e) (I.ok.noex b o e),I.base.free b o (I.ok.bs b o e).1 (I.ok.bs b o e).2 (I.ok.noex b o e)⟩
theorem Inv.bk (I:Inv X pins σ H s):∀ b o,X.base.get? b=some o->s.heap.get? b=some o:=λb o e=>(I.bs b o e).1
theorem Inv.mod (I:Inv X pins σ H s):Mod X.K X.mg X.base:=I.ok.mod
theorem Inv.kIn (I:Inv X pins σ H s):X.K.In s.heap:=I.ok.mod.kin.keeps I.bk
theorem Inv.fr (I:Inv X pins σ H s):∃ m,Fr X.base X.env.locals s.heap m :=
 let ⟨m,hn,_⟩:=I.loc
 ⟨m,hn,I.bk,Nat.le_trans I.ok.bsz I.ok.above⟩
theorem Inv.lt (I:Inv X pins σ H s):X.env.locals < s.heap.objs.size:=let ⟨_,hn,_⟩:=I.loc; hn.lt
theorem Inv.sz (I:Inv X pins σ H s):X.s₀.heap.objs.size<=s.heap.objs.size:=Nat.le_trans I.ok.above (Nat.le_of_lt I.lt)
theorem Inv.nofs (I:Inv X pins σ H s){a:Addr}(h:s.heap.objs.size<=a):a∉X.fs:=λhb=>by
 obtain ⟨_,o,ho,_⟩:=I.ok.funs.mem hb
 exact absurd (Nat.lt_of_lt_of_le (Heap.lt_size ho) (Nat.le_trans I.sz h)) (Nat.lt_irrefl _)
theorem Inv.cne (I:Inv X pins σ H s):∀ x c,X.env.cells.lookup x=some c->c≠X.env.locals:=λx c e z=>by
 obtain ⟨v,o,ho,hd⟩:=I.cell x c e
 obtain ⟨m,⟨o',es,ep,ho',hd',_⟩,_⟩:=I.loc
 rw [z,ho'] at ho; cases ho; rw [hd'] at hd; cases hd
theorem Inv.funs (I:Inv X pins σ H s):s.heap.FunFrames X.base X.outer:=by
 have all:∀(l:List Env),(∀ b∈frs l,b∈X.fs)->X.s₀.heap.FunFrames X.base l->s.heap.FunFrames X.base l:=by
  intro l
  induction l with
  | nil=>intro _ _; trivial
  | cons env r ih =>
   intro hs hl
   obtain ⟨hk,⟨L,o,hf,hn,ho,hd⟩,hr⟩:=hl
   have hL:L∈X.fs:=hs L (by unfold frs; rw [List.filterMap_cons,hf]; exact List.mem_cons_self)
   obtain ⟨sl,e⟩:=I.base.slot L o ho (I.ok.frf L hL) hL λz=>I.ok.exfs L z hL
   exact ⟨hk,⟨L,_,hf,hn,e,hd⟩,ih (λb hb=>hs b (by unfold frs; rw [List.filterMap_cons,hf]; exact List.mem_cons_of_mem _ hb)) hr⟩
 exact all X.outer (λ_ hb=>hb) I.ok.funs
theorem Inv.stack (I:Inv X pins σ H s):s.heap.FunFrames X.base X.stack:=by
 rcases I.ok.stk with e | ⟨e,hf⟩
 ·rw [e]; exact I.funs
 ·rw [e]
  obtain ⟨m,hn,_⟩:=I.loc
  refine .cons (by rw [I.ok.kind]; decide) hf hn ?_ I.funs
  exact Heap.get?_none_of_le (Nat.le_trans I.ok.bsz I.ok.above)
theorem Inv.stkSub (I:Inv X pins σ H s):∀ b∈frs X.stack,b∈X.env.locals :: X.fs:=λb hb=>by
 rcases I.ok.stk with e | ⟨e,hf⟩
 ·rw [e] at hb; exact List.mem_cons_of_mem _ hb
 ·rw [e] at hb
  unfold frs at hb
  rw [List.filterMap_cons,hf] at hb
  exact hb
theorem Inv.stkFree (I:Inv X pins σ H s):∀ b∈frs X.stack,H b=none:=λb hb=>by
 rcases List.mem_cons.mp (I.stkSub b hb) with e | hb
 ·rw [e]; exact I.free
 ·obtain ⟨_,o,ho,_⟩:=I.ok.funs.mem hb
  exact I.base.free b o ho (I.ok.frf b hb) λz=>I.ok.exfs b z hb
theorem Inv.step {g':Array GenState}{t':Nat}{d':Drawn}{ch:List Addr}(I:Inv X pins σ H s)
  (hch:∀ b∈ch,(b∈X.ex∨X.s₀.heap.objs.size<=b)/\b≠X.env.locals/\(∀ x c,X.env.cells.lookup x=some c->c≠b)/\∀ p∈X.pn ++ pins,p.1≠b)
  (keep:∀ b o,b≠X.env.locals->b∉X.fs->b∉ch->s.heap.get? b=some o->H b=none->h'.get? b=some o)
  (slot:∀ b o,b≠X.env.locals->b∈X.fs->b∉ch->s.heap.get? b=some o->H b=none->∃ sl,h'.get? b=some { o with slots:=sl }) (free:∀ b o,b∉ch->s.heap.get? b=some o->H b=none->H' b=none)
  (there:∀ b o,b∉ch->s.heap.get? b=some o->∃ o',h'.get? b=some o')
  (tups:∀ b xs,H b=some (.tup xs)->H' b=some (.tup xs)) (frzs:∀ b o u,H b=some (.frz o u)->H' b=some (.frz o u)) (tbls:∀ b ps,H b=some (.tbl ps)->∃ more,H' b=some (.tbl (ps ++ more)))
  (ns:∀ m,s.heap.Ns X.env.locals m->h'.Ns X.env.locals m) (hok:HOk X.prog X.w H' h') (hg:AllBare g') :
  Inv X pins σ H' { s with heap:=h',gens:=g',drawn:=d',toks:=t' }:=by
 have neL:∀ b o,X.s₀.heap.get? b=some o->b≠X.env.locals:=λb o e=>Nat.ne_of_lt (Nat.lt_of_lt_of_le (Heap.lt_size e) I.ok.above)
 have neC:∀ b o,X.s₀.heap.get? b=some o->b∉X.ex->b∉ch:=λb o e hx hb=>by
  rcases (hch b hb).1 with z | z
  ·exact hx z
  ·exact absurd (Nat.lt_of_lt_of_le (Heap.lt_size e) z) (Nat.lt_irrefl _)
 have cellK:∀ x c,X.env.cells.lookup x=some c->∀ v,s.heap.IsCell c v->h'.IsCell c v:=λx c e v ⟨o,ho,hd⟩=>by
  have nch:c∉ch:=λz=>(hch c z).2.2.1 x c e rfl
  by_cases hc:c∈X.fs
  ·obtain ⟨sl,q⟩:=slot c o (I.cne x c e) hc nch ho (I.freeC x c e)
   exact ⟨_,q,hd⟩
  ·exact ⟨o,keep c o (I.cne x c e) hc nch ho (I.freeC x c e),hd⟩
 refine ⟨I.ok,I.os,hg,⟨λb o e n hb hx=>?_,λb o e n hb hx=>?_,λb o e n hx=>?_,λb o e hx=>?_,λb xs e=>tups b xs (I.base.tups b xs e),λb o xs e=>frzs b o xs (I.base.frzs b o xs e),λb ps e=>?_⟩,?_,λx c e=>?_,?_,λx c e=>?_,λp hp=>?_,hok,I.len⟩
 ·exact keep b o (neL b o e) hb (neC b o e hx) (I.base.keep b o e n hb hx) (I.base.free b o e n hx)
 ·obtain ⟨sl,e1⟩:=I.base.slot b o e n hb hx
  obtain ⟨sl',e2⟩:=slot b _ (neL b o e) hb (neC b o e hx) e1 (I.base.free b o e n hx)
  exact ⟨sl',e2⟩
 ·obtain ⟨o',e1⟩:=I.base.there b o e hx
  exact free b o' (neC b o e hx) e1 (I.base.free b o e n hx)
 ·obtain ⟨o',e1⟩:=I.base.there b o e hx
  exact there b o' (neC b o e hx) e1
 ·obtain ⟨m1,e1⟩:=I.base.tbls b ps e
  obtain ⟨m2,e2⟩:=tbls b _ e1
  exact ⟨m1 ++ m2,by rw [e2,Array.append_assoc]⟩
 ·obtain ⟨m,hn,hl⟩:=I.loc
  refine ⟨m,ns m hn,λi x v e1 e2 e3=>?_⟩
  obtain ⟨u,r,l⟩:=hl i x v e1 e2 e3
  refine ⟨u,r,?_⟩
  rcases l with l | ⟨k,c,e,z⟩
  ·exact .inl l
  ·exact .inr ⟨k,c,e,cellK x c e _ z⟩
 ·obtain ⟨v,z⟩:=I.cell x c e
  exact ⟨v,cellK x c e v z⟩
 ·obtain ⟨m,⟨o,_,_,ho,_⟩,_⟩:=I.loc
  exact free _ o (λz=>(hch _ z).2.1 rfl) ho I.free
 ·obtain ⟨v,o,ho,hd⟩:=I.cell x c e
  exact free c o (λz=>(hch c z).2.2.1 x c e rfl) ho (I.freeC x c e)
 ·obtain ⟨e,n,ne,nf,d⟩:=I.pin p hp
  have nch:p.1∉ch:=λz=>(hch p.1 z).2.2.2 p hp rfl
  exact ⟨keep p.1 p.2 ne nf nch e n,free p.1 p.2 nch e n,ne,nf,d⟩
theorem Inv.un {t':Nat}(I:Inv X pins σ H s)(u:Un X.fs [] H H' s.heap h')(hok:HOk X.prog X.w H' h'):Inv X pins σ H' { s with heap:=h',toks:=t' }:=by
 obtain ⟨m,⟨o,es,ep,ho,r⟩,_⟩:=id I.loc
 obtain ⟨sl,hL⟩:=u.any ho I.free (by simp)
 exact I.step (g':=s.gens) (d':=s.drawn) (ch:=[]) (λ_ z=>nomatch z) (λb o _ hb _ e n=>u.keep b o e n hb (by simp)) (λb o _ hb _ e n=>u.slot b o e n hb (by simp)) (λb o _ e n=>u.free b o e n (by simp)) (λb o _ e=>u.there b o e (by simp)) u.tups u.frzs u.tbls (λm' hm=>by
  obtain ⟨o',es',ep',ho',r'⟩:=hm
  rw [ho] at ho'; cases ho'
  exact ⟨_,es',ep',hL,r'⟩) hok I.bare
theorem Inv.call {g':Array GenState}{t':Nat}{d':Drawn}{ch:List Addr}(I:Inv X pins σ H s)(u:Un (frs X.stack) ch H H' s.heap h')(hok:HOk X.prog X.w H' h')(hg:AllBare g')
  (hch:∀ b∈ch,(b∈X.ex∨X.s₀.heap.objs.size<=b)/\b≠X.env.locals/\(∀ x c,X.env.cells.lookup x=some c->c≠b)/\∀ p∈X.pn ++ pins,p.1≠b) :
  Inv X pins σ H' { s with heap:=h',gens:=g',drawn:=d',toks:=t' }:=by
 obtain ⟨m,⟨o,es,ep,ho,r⟩,_⟩:=id I.loc
 obtain ⟨sl,hL⟩:=u.any ho I.free λz=>(hch _ z).2.1 rfl
 exact I.step (ch:=ch) hch (λb o hL hb hc e n=>u.keep b o e n (λz=>(List.mem_cons.mp (I.stkSub b z)).elim hL hb) hc) (λb o _ _ hc e n=>u.any e n hc) (λb o hc e n=>u.free b o e n hc) (λb o hc e=>u.there b o e hc) u.tups u.frzs u.tbls (λm' hm=>by
  obtain ⟨o',es',ep',ho',r'⟩:=hm
  rw [ho] at ho'; cases ho'
  exact ⟨_,es',ep',hL,r'⟩) hok hg
theorem Inv.turned {t':Nat}{it:Addr}(I:Inv X pins σ H s)(k:∀ b o,b≠it->s.heap.get? b=some o->h'.get? b=some o)(hn:H it=none)(hL:it≠X.env.locals)
  (h1:it∈X.ex∨X.s₀.heap.objs.size<=it) (h2:∀ x c,X.env.cells.lookup x=some c->c≠it) (h3:∀ p∈X.pn ++ pins,p.1≠it):Inv X pins σ H { s with heap:=h',toks:=t' }:=by
 have nit:∀ b u,H b=some u->b≠it:=λb u e z=>by rw [z,hn] at e; cases e
 refine I.step (g':=s.gens) (d':=s.drawn) (ch:=[it]) (λb hb=>?_) (λb o _ _ hc e _=>k b o (λz=>hc (by simp [z])) e) (λb o _ _ hc e _=>⟨o.slots,k b o (λz=>hc (by simp [z])) e⟩) (λ_ _ _ _ n=>n)
  (λb o hc e=>⟨o,k b o (λz=>hc (by simp [z])) e⟩) (λ_ _ e=>e) (λ_ _ _ e=>e) (λb ps e=>⟨#[],by rw [e]; simp⟩) (λm hm=>?_) (λb u e=>?_) I.bare
 ·have e:b=it:=by simpa using hb
  subst e
  exact ⟨h1,hL,h2,h3⟩
 ·obtain ⟨o,es,ep,ho,r⟩:=hm
  exact ⟨o,es,ep,k _ o (Ne.symm hL) ho,r⟩
 ·refine (I.hok b u e).stay (λc v hc q=>k c v ?_ q) (λ_ q=>q) λ_ _ q=>q
  rcases hc with z | z
  ·rw [z]; exact nit b u e
  ·exact nit c _ z
theorem Inv.tok (I:Inv X pins σ H s)(t:Nat):Inv X pins σ H { s with toks:=t }:=I.un (h':=s.heap) (t':=t) Un.refl I.hok
theorem Inv.kept {t':Nat}(I:Inv X pins σ H s)(k:∀ b u,s.heap.get? b=some u->h'.get? b=some u):Inv X pins σ H { s with heap:=h',toks:=t' }:=I.un (Un.kept k) (I.hok.kept k)
theorem Inv.laid {a:Addr}{o:HO}{t':Nat}(I:Inv X pins σ H s)(k:∀ b u,s.heap.get? b=some u->h'.get? b=some u)(hp:s.heap.objs.size<=a)(new:ObjOk X.prog X.w (upd H a o) h' a o) :
  Inv X pins σ (upd H a o) { s with heap:=h',toks:=t' }:=I.un (Un.laid k hp (I.hok.fresh hp)) (I.hok.laid k hp new)
theorem Inv.write {x e:Addr}{o:HO}{t':Nat}(I:Inv X pins σ H s)(mu:Mut (H x))(he:e=x∨H e=some (.own x))(k:∀ b u,b≠e->s.heap.get? b=some u->h'.get? b=some u)(heo:∃ u,h'.get? e=some u)
  (new:ObjOk X.prog X.w (upd H x o) h' x o):Inv X pins σ (upd H x o) { s with heap:=h',toks:=t' }:=I.un (Un.write mu he k heo) (I.hok.write mu he k heo new)
theorem Inv.weak {σ':List (Option V)}(I:Inv X pins σ H s)(hl:σ'.length=σ.length)(w:∀(i:Nat) v,σ'[i]? = some (some v)->σ[i]? = some (some v)):Inv X pins σ' H s :=
 ⟨I.ok,I.os,I.bare,I.base,let ⟨m,hn,hl'⟩:=I.loc; ⟨m,hn,λi x v e1 e2 e3=>hl' i x v e1 (w i v e2) e3⟩,I.cell,I.free,I.freeC,I.pin,I.hok,hl.trans I.len⟩
theorem Inv.pins_of {pins':List (Addr×Obj)}(I:Inv X pins σ H s)(h:∀ p∈pins',s.heap.get? p.1=some p.2/\H p.1=none/\p.1≠X.env.locals/\p.1∉X.fs/\∀ v,p.2.data≠.cell v):Inv X pins' σ H s :=
 ⟨I.ok,I.os,I.bare,I.base,I.loc,I.cell,I.free,I.freeC,λp hp=>(List.mem_append.mp hp).elim (λz=>I.pin p (List.mem_append_left _ z)) (h p),I.hok,I.len⟩
theorem qG2 {N:List Str}(hN:N.Nodup){i j:Nat}{x:Str}(a:N[i]? = some x)(b:N[j]? = some x):i=j:=by
 obtain ⟨h1,e1⟩:=List.getElem?_eq_some_iff.mp a
 obtain ⟨h2,e2⟩:=List.getElem?_eq_some_iff.mp b
 exact (List.getElem_inj hN).mp (e1.trans e2.symm)
theorem qn8 {M:Model}{A:Around}{E:Value->Shared->Prop}{i:Nat}{x:Str}{v:V}{u:Value}{Q:Unit->Shared->Prop}(I:Inv X pins σ H s)(hN:X.N.Nodup)(hi:X.N[i]? = some x)(hx:Loc X.env.scope x)(r:RelV v u)
  (h:∀ s',Inv X pins (σ.set i (some v)) H s'->(∃ a,Heap.SameBut a s.heap s'.heap/\(a=X.env.locals∨X.env.cells.lookup x=some a))->Q () s') (hf:X.fn x=true∨X.env.scope.names.lookup x=some .local:=by first | exact .inl rfl | exact .inr rfl | assumption):wpAny M A (storeName X.env x u) Q E s:=by
 obtain ⟨m,hn,hl⟩:=id I.loc
 have hcls:(X.env.scope.kind == .class || (X.env.scope.kind == .module && X.env.locals != X.env.globals))=false:=by rw [I.ok.kind]; rfl
 have hiσ:i < σ.length:=by rw [I.len]; exact (List.getElem?_eq_some_iff.mp hi).1
 have cne:=I.cne
 have tracked:∀{a:Addr} {h':Heap},(∃ o,s.heap.get? a=some o/\H a=none)->Heap.SameBut a s.heap h'->HOk X.prog X.w H h':=λ{a h'} ha hs b ob e=>by
  obtain ⟨_,_,hfree⟩:=ha
  refine (I.hok b ob e).stay (λc w' hc q=>(hs.2 c ?_).trans q) (λ_ q=>q) λ_ _ q=>q
  rintro rfl
  rcases hc with rfl | hc
  ·rw [hfree] at e; cases e
  ·rw [hfree] at hc; cases hc
 rcases hx with hk | hk
 ·refine wpAny_storeName_local hk hn (λh' hn' hs=>?_) hcls
  obtain ⟨oL,_,_,hoL,_⟩:=id hn
  refine h _ ⟨I.ok,I.os,I.bare,⟨λb o e n hb hx=>?_,λb o e n hb hx=>?_,I.base.free,λb o e hx=>?_,I.base.tups,I.base.frzs,I.base.tbls⟩,⟨_,hn',λj y v' e1 e2 e3=>?_⟩,λy c e=>?_,I.free,I.freeC,λp hp=>?_,tracked ⟨oL,hoL,I.free⟩ hs,by simpa using I.len⟩ ⟨_,hs,.inl rfl⟩
  ·exact (hs.2 b (Nat.ne_of_lt (Nat.lt_of_lt_of_le (Heap.lt_size e) I.ok.above))).trans (I.base.keep b o e n hb hx)
  ·obtain ⟨sl,e1⟩:=I.base.slot b o e n hb hx
   exact ⟨sl,(hs.2 b (Nat.ne_of_lt (Nat.lt_of_lt_of_le (Heap.lt_size e) I.ok.above))).trans e1⟩
  ·obtain ⟨o',e1⟩:=I.base.there b o e hx
   exact ⟨o',(hs.2 b (Nat.ne_of_lt (Nat.lt_of_lt_of_le (Heap.lt_size e) I.ok.above))).trans e1⟩
  ·by_cases hj:j=i
   ·subst hj
    rw [hi] at e1; cases e1
    rw [List.getElem?_set_self hiσ] at e2
    cases e2
    exact ⟨u,r,.inl ⟨hk,by simp⟩⟩
   ·rw [List.getElem?_set_ne (Ne.symm hj)] at e2
    obtain ⟨u',r',q⟩:=hl j y v' e1 e2 e3
    refine ⟨u',r',?_⟩
    rcases q with ⟨k,e⟩ | ⟨k,c,e,z⟩
    ·refine .inl ⟨k,?_⟩
     have:y≠x:=λe=>hj (qG2 hN e1 (e ▸ hi))
     simp [this,e]
    ·exact .inr ⟨k,c,e,z.sameBut hs (cne y c e)⟩
  ·obtain ⟨w',z⟩:=I.cell y c e
   exact ⟨w',z.sameBut hs (cne y c e)⟩
  ·obtain ⟨e,n,ne,nf,d⟩:=I.pin p hp
   exact ⟨(hs.2 p.1 ne).trans e,n,ne,nf,d⟩
 ·have hfn:X.fn x=true:=by
   rcases hf with z | z
   ·exact z
   ·rw [z] at hk; cases hk
  obtain ⟨c,hc⟩:=I.ok.has x (.inl hk)
  obtain ⟨w',z⟩:=I.cell x c hc
  refine wpAny_storeName_cell I.ok.kind hk hc z (λh' hc' hs=>?_)
  obtain ⟨oc,hoc,hocd⟩:=id z
  refine h { s with heap:=h' } ⟨I.ok,I.os,I.bare,⟨λb o e n hb hx=>?_,λb o e n hb hx=>?_,I.base.free,λb o e hx=>?_,I.base.tups,I.base.frzs,I.base.tbls⟩,⟨m,hn.sameBut hs (Ne.symm (cne x c hc)),λj y v' e1 e2 e3=>?_⟩,λy c' e=>?_,I.free,I.freeC,λp hp=>?_,tracked ⟨oc,hoc,I.freeC x c hc⟩ hs,by simpa using I.len⟩ ⟨c,hs,.inr hc⟩
  ·exact (hs.2 b (Nat.ne_of_lt (Nat.lt_of_lt_of_le (Heap.lt_size e) (I.ok.cab x c hfn hc)))).trans (I.base.keep b o e n hb hx)
  ·obtain ⟨sl,e1⟩:=I.base.slot b o e n hb hx
   exact ⟨sl,(hs.2 b (Nat.ne_of_lt (Nat.lt_of_lt_of_le (Heap.lt_size e) (I.ok.cab x c hfn hc)))).trans e1⟩
  ·obtain ⟨o',e1⟩:=I.base.there b o e hx
   exact ⟨o',(hs.2 b (Nat.ne_of_lt (Nat.lt_of_lt_of_le (Heap.lt_size e) (I.ok.cab x c hfn hc)))).trans e1⟩
  ·by_cases hj:j=i
   ·subst hj
    rw [hi] at e1; cases e1
    rw [List.getElem?_set_self hiσ] at e2
    cases e2
    exact ⟨u,r,.inr ⟨.inl hk,c,hc,hc'⟩⟩
   ·rw [List.getElem?_set_ne (Ne.symm hj)] at e2
    obtain ⟨u',r',q⟩:=hl j y v' e1 e2 e3
    refine ⟨u',r',?_⟩
    rcases q with q | ⟨k,c',e,z'⟩
    ·exact .inl q
    ·refine .inr ⟨k,c',e,z'.sameBut hs ?_⟩
     rintro rfl
     exact hj (qG2 hN e1 (I.ok.inj _ _ _ e hc ▸ hi))
  ·by_cases hcc:c'=c
   ·subst hcc; exact ⟨_,hc'⟩
   ·obtain ⟨w2,z2⟩:=I.cell y c' e
    exact ⟨w2,z2.sameBut hs hcc⟩
  ·obtain ⟨e,n,ne,nf,d⟩:=I.pin p hp
   refine ⟨(hs.2 p.1 ?_).trans e,n,ne,nf,d⟩
   intro q
   rw [q,hoc] at e
   have q':oc=p.2:=Option.some.inj e
   exact d w' (by rw [<- q']; exact hocd)
theorem qt7 {M:Model}{A:Around}{E:Value->Shared->Prop}{i:Nat}{x:Str}{v:V}{u:Value}{Q:Unit->Shared->Prop}(I:Inv X pins σ H s)(hN:X.N.Nodup)(hi:X.N[i]? = some x)(hx:Loc X.env.scope x)(r:RelV v u)
  (h:∀ s',Inv X pins (σ.set i (some v)) H s'->Q () s') (hf:X.fn x=true∨X.env.scope.names.lookup x=some .local:=by first | exact .inl rfl | exact .inr rfl | assumption):wpAny M A (storeName X.env x u) Q E s :=
 qn8 I hN hi hx r (λs' I' _=>h s' I') hf
theorem Inv.call' {s':Shared}{ch:List Addr}(I:Inv X pins σ H s)(ho:s'.os=s.os)(u:Un (frs X.stack) ch H H' s.heap s'.heap)(hok:HOk X.prog X.w H' s'.heap)(hg:AllBare s'.gens)
  (hch:∀ b∈ch,(b∈X.ex∨X.s₀.heap.objs.size<=b)/\b≠X.env.locals/\(∀ x c,X.env.cells.lookup x=some c->c≠b)/\∀ p∈X.pn ++ pins,p.1≠b):Inv X pins σ H' s':=by
 obtain ⟨h',g',d',t',o'⟩:=s'
 have e:o'=s.os:=ho
 subst e
 exact I.call (g':=g') (t':=t') (d':=d') u hok hg hch
end
abbrev XK:=Value->Option Addr->Hp->Prop
abbrev St:=List (Option V)
abbrev VK:=V->Hp->Prop
abbrev TE:=St->Hp->VK->Prop
abbrev TT:=St->Hp->(Bool->Hp->Prop)->Prop
abbrev TA:=St->Hp->(List V->Hp->Prop)->Prop
structure Ends where
 nx:St->Hp->Prop
 rt:VK
 bk:St->Hp->Prop:=λ_ _=>False
 ct:St->Hp->Prop:=λ_ _=>False
abbrev TS:=Ends->St->Hp->Prop
def EP (X:Cx)(pins:List (Addr×Obj))(σ:St)(Q:VK)(u:Value)(s':Shared):Prop:=∃ v H',Inv X pins σ H' s'/\RelV v u/\Q v H'
def TP (X:Cx)(pins:List (Addr×Obj))(σ:St)(Q:Bool->Hp->Prop)(b:Bool)(s':Shared):Prop:=∃ H',Inv X pins σ H' s'/\Q b H'
def AP (X:Cx)(pins:List (Addr×Obj))(σ:St)(Q:List V->Hp->Prop)(us:List Value)(s':Shared):Prop:=∃ vs H',Inv X pins σ H' s'/\Vals vs us/\Q vs H'
def SP (X:Cx)(pins:List (Addr×Obj))(D:Ends)(f:Flow)(s':Shared):Prop :=
 match f with
 | .next=>∃ σ' H',Inv X pins σ' H' s'/\D.nx σ' H'
 | .brk=>∃ σ' H',Inv X pins σ' H' s'/\D.bk σ' H'
 | .cont=>∃ σ' H',Inv X pins σ' H' s'/\D.ct σ' H'
 | .ret u=>∃ v σ' H',Inv X pins σ' H' s'/\RelV v u/\D.rt v H'
def PE (X:Cx)(e:Expr)(t:TE):Prop :=
 ∀(pins:List (Addr×Obj)) (s:Shared) (σ:St) (H:Hp) (Q:VK),Inv X pins σ H s->t σ H Q->wpAny (model X.prog X.w) X.A (eval e X.env) (EP X pins σ Q) X.xe s
def PT (X:Cx)(e:Expr)(t:TT):Prop :=
 ∀(pins:List (Addr×Obj)) (s:Shared) (σ:St) (H:Hp) (Q:Bool->Hp->Prop),Inv X pins σ H s->t σ H Q->wpAny (model X.prog X.w) X.A (isTrue e X.env (eval e X.env)) (TP X pins σ Q) X.xe s
def PW (X:Cx)(e:Expr)(t:TT):Prop :=
 ∀(whole:Sem Value) (pins:List (Addr×Obj)) (s:Shared) (σ:St) (H:Hp) (Q:Bool->Hp->Prop),Inv X pins σ H s->t σ H Q->wpAny (model X.prog X.w) X.A (isTrue e X.env whole) (TP X pins σ Q) X.xe s
theorem PW.pt {X:Cx}{e:Expr}{t:TT}(h:PW X e t):PT X e t:=h _
def PA (X:Cx)(es:List Expr)(t:TA):Prop :=
 ∀(pos:Pos) (pins:List (Addr×Obj)) (s:Shared) (σ:St) (H:Hp) (Q:List V->Hp->Prop),Inv X pins σ H s->t σ H Q->wpAny (model X.prog X.w) X.A (spliced (backTo pos (starEach es X.env))) (AP X pins σ Q) X.xe s
def PS (X:Cx)(st:Stmt)(t:TS):Prop :=
 ∀(pins:List (Addr×Obj)) (s:Shared) (σ:St) (H:Hp) (D:Ends),Inv X pins σ H s->t D σ H->wpAny (model X.prog X.w) X.A (exec st X.env) (SP X pins D) X.xe s
def PSs (X:Cx)(st:List Stmt)(t:TS):Prop :=
 ∀(pins:List (Addr×Obj)) (s:Shared) (σ:St) (H:Hp) (D:Ends),Inv X pins σ H s->t D σ H->wpAny (model X.prog X.w) X.A (execs st X.env) (SP X pins D) X.xe s
theorem thn {α:Type}{t:Sem α}{Q Q':α->Shared->Prop}{M:Model}{A:Around}{E:Value->Shared->Prop}{s:Shared}(h:wpAny M A t Q E s)(hQ:∀ a s,Q a s->Q' a s):wpAny M A t Q' E s:=wpAny_mono h hQ λ_ _ x=>x
section
variable {X:Cx}
theorem bin {a b:Expr}{ta tb:TE}(ha:PE X a ta)(hb:PE X b tb){pins:List (Addr×Obj)}{s:Shared}{σ:St}{H:Hp}{R:V->V->Hp->Prop}(I:Inv X pins σ H s)(h:ta σ H λx H1=>tb σ H1 λy H2=>R x y H2)
  {α:Type} {Q:α->Shared->Prop} {f:Value->Value->Sem α}
  (hf:∀ v u s2 x y H2,Inv X pins σ H2 s2->RelV x v->RelV y u->R x y H2->wpAny (model X.prog X.w) X.A (f v u) Q X.xe s2) :
  wpAny (model X.prog X.w) X.A (eval a X.env) (λv s₁=>wpAny (model X.prog X.w) X.A (eval b X.env) (λu s₂=>wpAny (model X.prog X.w) X.A (f v u) Q X.xe s₂) X.xe s₁) X.xe s:=by
 refine thn (ha pins s σ H _ I h) λv s1 ⟨x,H1,I1,r1,q1⟩=>?_
 refine thn (hb pins s1 σ H1 _ I1 q1) λu s2 ⟨y,H2,I2,r2,q2⟩=>?_
 exact hf v u s2 x y H2 I2 r1 r2 q2
def qE8 (i:Nat):TE:=λσ H Q=>∃ v,σ[i]? = some (some v)/\Q v H
def tC (v:V):TE:=λ_ H Q=>Q v H
theorem z78 {i:Nat}{x:Str}{pos:Pos}(hN:X.N[i]? = some x) (hv:Vis X.env.scope x) (hd:(x == ("__debug__" : Str))=false:=by decide) (hcd:(x == ("__classdict__" : Str))=false:=by decide):PE X (.Name x pos) (qE8 i):=by
 intro pins s σ H Q I h
 obtain ⟨v,e,h⟩:=h
 obtain ⟨m,hn,hl⟩:=I.loc
 obtain ⟨u,r,l⟩:=hl i x v hN e hv
 have fin:EP X pins σ Q u s:=⟨v,H,I,r,h⟩
 rcases l with ⟨hk,hm⟩ | ⟨hk,c,hc,hcell⟩
 ·exact wpAny_Name (wpAny_loadName_local I.ok.kind hk hn hm fin) hd
 ·rcases hk with hk | hk
  ·exact wpAny_Name (wpAny_loadName_cell I.ok.kind hk hc hcell fin) hd
  ·exact wpAny_Name (wpAny_loadName_free I.ok.kind hk hc hcell fin hcd) hd
theorem q06 {i j pos}:PE X (.Constant (.int i) j pos) (tC (.int i)):=λ_ _ _ H _ I h=>wpAny_Constant_int ⟨.int i,H,I.tok _,⟨_,rfl⟩,h⟩
theorem qk2 {b j pos}:PE X (.Constant (.bool b) j pos) (tC (.bl b)):=λ_ _ _ H _ I h=>Constant_bool ⟨.bl b,H,I,rfl,h⟩
theorem qQ1 {j pos}:PE X (.Constant .none j pos) (tC .non):=λ_ _ _ H _ I h=>Constant_none ⟨.non,H,I,rfl,h⟩
theorem q15 {x j pos}:PE X (.Constant (.str x) j pos) (tC (.str x)):=λ_ _ _ H _ I h=>Calls.Constant_str ⟨.str x,H,I.tok _,⟨_,rfl⟩,h⟩
def Gl (X:Cx)(x:Str):Prop:=X.env.kindOf x=some .globalImplicit
theorem qh2 {E:Value->Shared->Prop}{pins:List (Addr×Obj)}{s:Shared}{σ:St}{H:Hp}{x:Str}{u:Value}{pos:Pos}{Q:Value->Shared->Prop}(I:Inv X pins σ H s)(hg:Gl X x)(hm:X.mg x=some u)(h:Q u s)
  (hd:(x == ("__debug__" : Str))=false:=by decide):wpAny (model X.prog X.w) X.A (eval (.Name x pos) X.env) Q E s :=
 Calls.Name_function_global I.ok.kind hg (Calls.loadGlobal_global (by rw [I.ok.glob]; exact I.mod.glob.keeps I.bk) hm h) hd
theorem qi5 {E:Value->Shared->Prop}{pins:List (Addr×Obj)}{s:Shared}{σ:St}{H:Hp}{x:Str}{u:Value}{pos:Pos}{Q:Value->Shared->Prop}(I:Inv X pins σ H s)(hg:Gl X x)(hm:X.mg x=none)(hv:bootBuiltins x=some u)(h:Q u s)
  (hn:x ≠ "__name__" := by decide) (hd:(x == ("__debug__" : Str))=false:=by decide):wpAny (model X.prog X.w) X.A (eval (.Name x pos) X.env) Q E s:=by
 obtain ⟨mb,h1,h2⟩:=I.mod.blt
 exact Calls.Name_function_global I.ok.kind hg (Calls.loadGlobal_builtin (by rw [I.ok.glob]; exact I.mod.glob.keeps I.bk) hm (by rw [I.ok.blt]; exact h1.keeps I.bk) ((h2 x hn).trans hv) h) hd
theorem qe5 {x:Str}{v:V}{u:Value}{pos:Pos}(hg:Gl X x) (hm:X.mg x=some u) (r:RelV v u) (hd:(x == ("__debug__" : Str))=false:=by decide):PE X (.Name x pos) (tC v) :=
 λ_ _ _ H _ I h=>qh2 I hg hm ⟨v,H,I,r,h⟩ hd
theorem q88 {x:Str}{v:V}{u:Value}{pos:Pos}(hg:Gl X x) (hm:X.mg x=none) (hv:bootBuiltins x=some u) (r:RelV v u) (hn:x ≠ "__name__" := by decide) (hd:(x == ("__debug__" : Str))=false:=by decide):PE X (.Name x pos) (tC v) :=
 λ_ _ _ H _ I h=>qi5 I hg hm hv ⟨v,H,I,r,h⟩ hn hd
variable {a b:Expr}{ta tb:TE}{pos:Pos}
def PC (X:Cx)(op:CmpOp)(a b:Expr)(t:TE):Prop :=
 ∀(pins:List (Addr×Obj)) (s:Shared) (σ:St) (H:Hp) (Q:VK),Inv X pins σ H s->t σ H Q ->
  wpAny (model X.prog X.w) X.A (eval a X.env) (λv s₁=>wpAny (model X.prog X.w) X.A (eval b X.env) (λu s₂=>wpAny (model X.prog X.w) X.A (compareOp op v u) (EP X pins σ Q) X.xe s₂) X.xe s₁) X.xe s
theorem z36 (b:Expr){op:CmpOp}(h:op≠.In)(h2:op≠.NotIn):behindInMarks op b=false:=by
 have e1:(op == CmpOp.In)=false:=by cases op <;> first | rfl | exact absurd rfl h
 have e2:(op == CmpOp.NotIn)=false:=by cases op <;> first | rfl | exact absurd rfl h2
 cases b <;> simp [behindInMarks,e1,e2]
def tNotN (ta:TE):TE:=λσ H Q=>ta σ H λx H1=>Q (.bl (!decide (x=.non))) H1
theorem RelV.none_iff {x:V}{v:Value}(r:RelV x v):(v == Value.none)=decide (x=.non):=by
 cases x with
 | non=>cases r; rfl
 | bl _=>cases r; rfl
 | int _=>obtain ⟨t,rfl⟩:=r; rfl
 | str _=>obtain ⟨t,rfl⟩:=r; rfl
 | byt _=>obtain ⟨t,rfl⟩:=r; rfl
 | flt _=>obtain ⟨t,rfl⟩:=r; rfl
 | ref _=>cases r; rfl
 | ty _=>cases r; rfl
theorem pc_notN {j pos'}(ha:PE X a ta):PC X .IsNot a (.Constant .none j pos') (tNotN ta):=by
 intro pins s σ H Q I h
 refine thn (ha pins s σ H _ I h) λv s1 ⟨x,H1,I1,r1,q1⟩=>?_
 exact Constant_none (isnot_none_gen ⟨.bl _,H1,I1,by rw [r1.none_iff]; rfl,q1⟩)
def tB (t:TE):TT:=λσ H Q=>t σ H λx H1=>∃ c,x=.bl c/\Q c H1
theorem qP6 {op:CmpOp}{t:TE}(h:PC X op a b t)(h1:behindInMarks op b=false:=by first | exact z36 _ (by decide) (by decide) | rfl):PT X (.Compare a [op] [b] pos) (tB t):=by
 intro pins s σ H Q I hw
 refine wpAny_isTrue_Compare1 (thn (h pins s σ H _ I hw) λv s1 h1=>thn h1 λu s2 h2=>thn h2 λc s3 ⟨x,H1,I1,r1,q1⟩=>?_) h1
 obtain ⟨d,rfl,q⟩:=q1
 cases r1
 exact wpAny_truthy_bool ⟨H1,I1,q⟩
theorem q52 {e:Expr}{t:TE}(h:PE X e t)(he:∀ whole,isTrue e X.env whole=(do let v <- whole; standAt e.pos; holding [v] (truthy v)):=by intro _; rfl):PT X e (tB t):=by
 intro pins s σ H Q I hw
 refine isTrue_plain (thn (h pins s σ H _ I hw) λv s1 ⟨x,H1,I1,r1,q1⟩=>?_) (he _)
 obtain ⟨d,rfl,q⟩:=q1
 cases r1
 exact wpAny_truthy_bool ⟨H1,I1,q⟩
variable {tA tB':TT}{qf8:List Expr}
def tAnd (t u:TT):TT:=λσ H Q=>t σ H λc H1=>if c=true then u σ H1 Q else Q false H1
def tOr (t u:TT):TT:=λσ H Q=>t σ H λc H1=>if c=true then Q true H1 else u σ H1 Q
def tNot (t:TT):TT:=λσ H Q=>t σ H λc H1=>Q (!c) H1
theorem q53 (ha:PT X a tA):PW X (.BoolOp .And [a] pos) tA:=by
 intro wh pins s σ H Q I h
 refine isTrue_and (thn (ha pins s σ H Q I h) λc s1 e=>?_)
 cases c with
 | true=>exact isTrue_and_nil e
 | false=>exact e
theorem qb2 (ha:PT X a tA):PW X (.BoolOp .Or [a] pos) tA:=by
 intro wh pins s σ H Q I h
 refine isTrue_or (thn (ha pins s σ H Q I h) λc s1 e=>?_)
 cases c with
 | false=>exact isTrue_or_nil e
 | true=>exact e
theorem q72 (ha:PT X a tA)(hb:PW X (.BoolOp .And (b :: qf8) pos) tB'):PW X (.BoolOp .And (a :: b :: qf8) pos) (tAnd tA tB'):=by
 intro wh pins s σ H Q I h
 refine isTrue_and (thn (ha pins s σ H _ I h) λc s1 ⟨H1,I1,q1⟩=>?_)
 cases c with
 | true=>exact hb wh pins s1 σ H1 Q I1 q1
 | false=>exact ⟨H1,I1,q1⟩
theorem qh7 (ha:PT X a tA)(hb:PW X (.BoolOp .Or (b :: qf8) pos) tB'):PW X (.BoolOp .Or (a :: b :: qf8) pos) (tOr tA tB'):=by
 intro wh pins s σ H Q I h
 refine isTrue_or (thn (ha pins s σ H _ I h) λc s1 ⟨H1,I1,q1⟩=>?_)
 cases c with
 | true=>exact ⟨H1,I1,q1⟩
 | false=>exact hb wh pins s1 σ H1 Q I1 q1
theorem qa7 (ha:PT X a tA):PT X (.UnaryOp .Not a pos) (tNot tA):=by
 intro pins s σ H Q I h
 exact isTrue_not (ha pins s σ H (λc H1=>Q (!c) H1) I h)
def tAndV (ta tb:TE):TE:=λσ H Q=>ta σ H λx H1=>∃ c,x=.bl c/\if c=true then tb σ H1 Q else Q (.bl false) H1
def tNotV (ta:TE):TE:=λσ H Q=>ta σ H λx H1=>∃ c,x=.bl c/\Q (.bl (!c)) H1
theorem qs1 {op}{t:TE}(h:PE X a t):PE X (.BoolOp op [a] pos) t:=λpins s σ H Q I hw=>BoolOp_one (h pins s σ H Q I hw)
theorem qp3 (ha:PE X a ta)(hb:PE X (.BoolOp .And (b :: qf8) pos) tb):PE X (.BoolOp .And (a :: b :: qf8) pos) (tAndV ta tb):=by
 intro pins s σ H Q I h
 refine BoolOp_and (thn (ha pins s σ H _ I h) λv s1 ⟨x,H1,I1,r1,q1⟩=>?_)
 obtain ⟨c,rfl,q1⟩:=q1
 cases r1
 refine wpAny_truthy_bool ?_
 cases c with
 | true=>exact hb pins s1 σ H1 Q I1 q1
 | false=>exact ⟨.bl false,H1,I1,rfl,q1⟩
theorem pe_not (ha:PE X a ta):PE X (.UnaryOp .Not a pos) (tNotV ta):=by
 intro pins s σ H Q I h
 refine UnaryOp_ (thn (ha pins s σ H _ I h) λv s1 ⟨x,H1,I1,r1,q1⟩=>?_)
 obtain ⟨c,rfl,q1⟩:=q1
 cases r1
 exact not_of (wpAny_truthy_bool ⟨.bl (!c),H1,I1,rfl,q1⟩)
def tIf (t:TT)(ta tb:TE):TE:=λσ H Q=>t σ H λc H1=>if c=true then ta σ H1 Q else tb σ H1 Q
theorem qd0 {c:Expr}(hc:PT X c tA)(ha:PE X a ta)(hb:PE X b tb):PE X (.IfExp c a b pos) (tIf tA ta tb):=by
 intro pins s σ H Q I h
 refine wpAny_IfExp (thn (hc pins s σ H _ I h) λd s1 ⟨H1,I1,q1⟩=>?_)
 cases d with
 | true=>exact ha pins s1 σ H1 Q I1 q1
 | false=>exact hb pins s1 σ H1 Q I1 q1
end
def SqL (K:PySem.W.Frag)(H:Hp)(a:Addr)(xs:List V):Prop :=
 Rd H a (.lst xs) ∨
  ∃(o:Obj) (its:Array Value) (n:Nat),K.lookup a=some o/\o.cls=.type "list" /\ o.dict=none/\o.data=.seq its n/\its.size<=sizeLine/\Vals xs its.toList
def SqT (K:PySem.W.Frag)(H:Hp)(a:Addr)(xs:List V):Prop :=
 Rd H a (.tup xs) ∨
  ∃(o:Obj) (its:Array Value) (n:Nat),K.lookup a=some o/\o.cls=.type "tuple" /\ o.data=.seq its n/\its.size<=sizeLine/\Vals xs its.toList
def absV:Value->Option V
 | .none=>some .non
 | .bool b=>some (.bl b)
 | .int i _=>some (.int i)
 | .str x _=>some (.str x)
 | .bytes b _=>some (.byt b)
 | .float b _=>some (.flt b)
 | .ref a=>some (.ref a)
 | .type n=>some (.ty n)
 | _=>none
theorem RelV.abs {x:V}{u:Value}(r:RelV x u):absV u=some x:=by
 cases x with
 | non=>cases r; rfl
 | bl _=>cases r; rfl
 | int _=>obtain ⟨t,rfl⟩:=r; rfl
 | str _=>obtain ⟨t,rfl⟩:=r; rfl
 | byt _=>obtain ⟨t,rfl⟩:=r; rfl
 | flt _=>obtain ⟨t,rfl⟩:=r; rfl
 | ref _=>cases r; rfl
 | ty _=>cases r; rfl
theorem RelV.inj {x y:V}{u:Value}(r:RelV x u)(q:RelV y u):x=y:=Option.some.inj (r.abs.symm.trans q.abs)
theorem Vals.inj:∀{xs ys:List V}{us:List Value},Vals xs us->Vals ys us->xs=ys
 | _,_,_,.nil,.nil=>rfl
 | _,_,_,.cons r t,.cons r' t'=>by rw [r.inj r',Vals.inj t t']
section
variable {X:Cx}{pins:List (Addr×Obj)}{σ:St}{H:Hp}{s:Shared}{a:Addr}{xs ys:List V}
theorem SqL.of {K:PySem.W.Frag}(h:H a=some (.lst xs)):SqL K H a xs:=.inl (.inl h)
theorem SqT.of {K:PySem.W.Frag}(h:H a=some (.tup xs)):SqT K H a xs:=.inl (.inl h)
theorem Inv.list (I:Inv X pins σ H s)(h:SqL X.K H a xs):∃ its:List Value,Vals xs its/\PlainL s.heap a its.toArray/\xs.length<=sizeLine:=by
 rcases h with h | ⟨o,its,n,hk,hc,hd,hs,hz,r⟩
 ·obtain ⟨z,its,n,r,e⟩:=h.ok I.hok
  exact ⟨its,r,⟨_,n,e,rfl,rfl,rfl⟩,z⟩
 ·refine ⟨its.toList,r,⟨o,n,I.kIn a o hk,hc,hd,by simpa using hs⟩,?_⟩
  have e:=r.length
  simp only [Array.length_toList] at e
  omega
theorem Inv.tuple (I:Inv X pins σ H s)(h:SqT X.K H a xs):∃ its:List Value,Vals xs its/\IsTup s.heap a its.toArray/\xs.length<=sizeLine:=by
 rcases h with h | ⟨o,its,n,hk,hc,hs,hz,r⟩
 ·obtain ⟨z,its,r,p⟩:=h.ok I.hok
  exact ⟨its,r,p,z⟩
 ·refine ⟨its.toList,r,⟨o,I.kIn a o hk,hc,n,by simpa using hs⟩,?_⟩
  have e:=r.length
  simp only [Array.length_toList] at e
  omega
theorem Inv.list_inj (I:Inv X pins σ H s)(h:SqL X.K H a xs)(h':SqL X.K H a ys):xs=ys:=by
 obtain ⟨its,r,⟨o,n,e,_,_,d⟩,_⟩:=I.list h
 obtain ⟨its',r',⟨o',n',e',_,_,d'⟩,_⟩:=I.list h'
 rw [e] at e'; cases e'
 rw [d] at d'
 injection d' with d1 _
 have:its=its':=by simpa using congrArg Array.toList d1
 subst this
 exact r.inj r'
theorem Inv.tuple_inj (I:Inv X pins σ H s)(h:SqT X.K H a xs)(h':SqT X.K H a ys):xs=ys:=by
 obtain ⟨its,r,⟨o,e,_,n,d⟩,_⟩:=I.tuple h
 obtain ⟨its',r',⟨o',e',_,n',d'⟩,_⟩:=I.tuple h'
 rw [e] at e'; cases e'
 rw [d] at d'
 injection d' with d1 _
 have:its=its':=by simpa using congrArg Array.toList d1
 subst this
 exact r.inj r'
end
abbrev Cx.wish (X:Cx)(E:Value->Shared->Prop):Cx:={ X with xe:=E }
abbrev Cx.nox (X:Cx):Cx:=X.wish λ_ _=>False
theorem Cx.Ok.wish {X:Cx}(ok:X.Ok)(E:Value->Shared->Prop):(X.wish E).Ok :=
 ⟨ok.mod,ok.kind,ok.glob,ok.blt,ok.above,ok.inj,ok.has,ok.cab,ok.hd,ok.frames,ok.stk,ok.exf,ok.bs,ok.bsz,ok.noex,ok.exfs,ok.funs,ok.frf⟩
theorem Cx.Ok.unwish {X:Cx}{E:Value->Shared->Prop}(ok:(X.wish E).Ok):X.Ok :=
 ⟨ok.mod,ok.kind,ok.glob,ok.blt,ok.above,ok.inj,ok.has,ok.cab,ok.hd,ok.frames,ok.stk,ok.exf,ok.bs,ok.bsz,ok.noex,ok.exfs,ok.funs,ok.frf⟩
section
variable {X:Cx}{pins:List (Addr×Obj)}{σ:St}{H:Hp}{s:Shared}{E:Value->Shared->Prop}
theorem Inv.wish (I:Inv X pins σ H s)(E:Value->Shared->Prop):Inv (X.wish E) pins σ H s:=⟨I.ok.wish E,I.os,I.bare,I.base,I.loc,I.cell,I.free,I.freeC,I.pin,I.hok,I.len⟩
theorem Inv.unwish (I:Inv (X.wish E) pins σ H s):Inv X pins σ H s:=⟨I.ok.unwish,I.os,I.bare,I.base,I.loc,I.cell,I.free,I.freeC,I.pin,I.hok,I.len⟩
theorem SP.unwish {D:Ends}{f:Flow}{s':Shared}(h:SP (X.wish E) pins D f s'):SP X pins D f s':=by
 cases f with
 | next=>obtain ⟨σ',H',I,q⟩:=h; exact ⟨σ',H',I.unwish,q⟩
 | brk=>obtain ⟨σ',H',I,q⟩:=h; exact ⟨σ',H',I.unwish,q⟩
 | cont=>obtain ⟨σ',H',I,q⟩:=h; exact ⟨σ',H',I.unwish,q⟩
 | ret u=>obtain ⟨v,σ',H',I,r,q⟩:=h; exact ⟨v,σ',H',I.unwish,r,q⟩
theorem PSs.nox {st:List Stmt}{t:TS}(h:PSs X.nox st t):PSs X st t:=λpins s σ H D I hw =>
 wpAny_mono (h pins s σ H D (I.wish _) hw) (λ_ _ q=>q.unwish) λ_ _ z=>False.elim z
end
section
variable {X:Cx}{st:Stmt}{qf8:List Stmt}{t u:TS}{e:Expr}{te:TE}{pos:Pos}
def tNext:TS:=λD σ H=>D.nx σ H
def tSeq (t u:TS):TS:=λD σ H=>t { D with nx:=u D } σ H
theorem q21:PSs X [] tNext:=λ_ _ σ H _ I h=>wpAny_execs_nil ⟨σ,H,I,h⟩
theorem q04 (h1:PS X st t)(h2:PSs X qf8 u):PSs X (st :: qf8) (tSeq t u):=by
 intro pins s σ H D I h
 refine wpAny_execs_cons (thn (h1 pins s σ H { D with nx:=u D } I h) λf s1 q=>?_)
 cases f with
 | next =>
  obtain ⟨σ',H',I',q⟩:=q
  exact h2 pins s1 σ' H' D I' q
 | ret v=>exact q
 | brk=>exact q
 | cont=>exact q
theorem q05 (h1:PS X st t):PSs X [st] t:=by
 intro pins s σ H D I h
 refine wpAny_execs_cons (thn (h1 pins s σ H D I h) λf s1 q=>?_)
 cases f with
 | next=>exact wpAny_execs_nil q
 | ret v=>exact q
 | brk=>exact q
 | cont=>exact q
def tBreak:TS:=λD σ H=>D.bk σ H
theorem z06:PS X (.Break pos) tBreak:=λ_ _ σ H _ I h=>wpAny_Break ⟨σ,H,I,h⟩
theorem Inv.quiet {pins:List (Addr×Obj)}{σ:St}{H:Hp}{s:Shared}(I:Inv X pins σ H s):interactive X.env=false:=by simp [interactive,I.ok.kind]
def tDrop (te:TE):TS:=λD σ H=>te σ H λ_ H1=>D.nx σ H1
theorem q26 (he:PE X e te)(hs:swapsWith e none pos.line X.env=pure false:=by rfl):PS X (.Expr e pos) (tDrop te):=by
 intro pins s σ H D I h
 exact wpAny_Expr_any (thn (he pins s σ H _ I h) λv s1 ⟨x,H1,I1,r1,q1⟩=>⟨σ,H1,I1,q1⟩) I.quiet hs
def tRet (te:TE):TS:=λD σ H=>te σ H D.rt
theorem q13 (he:PE X e te):PS X (.Return (some e) pos) (tRet te):=by
 intro pins s σ H D I h
 exact wpAny_Return_some (thn (he pins s σ H _ I h) λv s1 ⟨x,H1,I1,r1,q1⟩=>⟨x,σ,H1,I1,r1,q1⟩)
def tIfS (c:TT)(t u:TS):TS:=λD σ H=>c σ H λb H1=>if b=true then t D σ H1 else u D σ H1
theorem q41 {c:Expr}{a b:List Stmt}{tc:TT}(hc:PT X c tc)(ha:PSs X a t)(hb:PSs X b u):PS X (.If c a b pos) (tIfS tc t u):=by
 intro pins s σ H D I h
 refine wpAny_If (thn (hc pins s σ H _ I h) λd s1 ⟨H1,I1,q1⟩=>?_)
 cases d with
 | true=>exact ha pins s1 σ H1 D I1 q1
 | false=>exact hb pins s1 σ H1 D I1 q1
def tNever:TS:=λ_ _ _=>False
theorem qm9:PS X st tNever:=λ_ _ _ _ _ _ h=>h.elim
end
abbrev TG:=V->St->Hp->(St->Hp->Prop)->Prop
abbrev TGs:=List V->St->Hp->(St->Hp->Prop)->Prop
def PG (X:Cx)(target:Expr)(t:TG):Prop :=
 ∀(pins:List (Addr×Obj)) (s:Shared) (σ:St) (H:Hp) (v:V) (u:Value) (Q:St->Hp->Prop),Inv X pins σ H s->RelV v u->t v σ H Q ->
  wpAny (model X.prog X.w) X.A (assign target X.env u) (λ_ s'=>∃ σ' H',Inv X pins σ' H' s'/\Q σ' H') X.xe s
def PGs (X:Cx)(ts:List Expr)(t:TGs):Prop :=
 ∀(pins:List (Addr×Obj)) (s:Shared) (σ:St) (H:Hp) (vs:List V) (us:List Value) (Q:St->Hp->Prop),Inv X pins σ H s->Vals vs us->t vs σ H Q ->
  wpAny (model X.prog X.w) X.A (assignInOrder ((assignEach ts X.env).map (·.2)) us) (λ_ s'=>∃ σ' H',Inv X pins σ' H' s'/\Q σ' H') X.xe s
section
variable {X:Cx}{pos:Pos}
def q81 (i:Nat):TG:=λv σ H Q=>Q (σ.set i (some v)) H
theorem q09 {i:Nat}{x:Str}(hN:X.N.Nodup)(hi:X.N[i]? = some x)(hx:Loc X.env.scope x)(hf:X.fn x=true∨X.env.scope.names.lookup x=some .local:=by first | exact .inl rfl | exact .inr rfl | assumption):PG X (.Name x pos) (q81 i):=by
 intro pins s σ H v u Q I r h
 exact wpAny_assign_Name (qt7 I hN hi hx r (λs' I'=>⟨_,H,I',h⟩) hf)
def qM4:TGs:=λvs σ H Q=>vs=[]/\Q σ H
def qa1 (t:TG)(u:TGs):TGs:=λvs σ H Q=>∃ v r,vs=v :: r/\t v σ H λσ' H'=>u r σ' H' Q
theorem q44:PGs X [] qM4:=by
 intro pins s σ H vs us Q I r h
 obtain ⟨e,h⟩:=h
 subst e
 cases r
 exact assignInOrder_nil ⟨σ,H,I,h⟩
theorem q17 {e:Expr}{es:List Expr}{t:TG}{u:TGs}(h1:PG X e t)(h2:PGs X es u)
  (hs:(assignEach (e :: es) X.env).map (·.2)=assign e X.env :: (assignEach es X.env).map (·.2):=by rfl):PGs X (e :: es) (qa1 t u):=by
 intro pins s σ H vs us Q I r h
 obtain ⟨v,vr,e1,h⟩:=h
 subst e1
 cases r with
 | cons r rr =>
  rw [hs]
  refine assignInOrder_cons (thn (h1 pins s σ H _ _ _ I r h) λ_ s1 ⟨σ1,H1,I1,q1⟩=>?_)
  exact h2 pins s1 σ1 H1 _ _ Q I1 rr q1
def qM3 (K:PySem.W.Frag)(n:Nat)(t:TGs):TG:=λv σ H Q=>∃ a xs,v=.ref a/\SqT K H a xs/\xs.length=n/\t xs σ H Q
theorem q64 {es:List Expr}{k:Nat}{t:TGs}{n:Nat}(hc:X.calm=true)(h:PGs X es t)
  (hn:(assignEach es X.env).length=n:=by rfl) (hst:(assignEach es X.env).findIdx? (·.1)=none:=by rfl):PG X (.Tuple es k pos) (qM3 X.K n t):=by
 intro pins s σ H v u Q I r hw
 obtain ⟨a,xs,e1,hq,hl,hw⟩:=hw
 subst e1
 cases r
 obtain ⟨its,rv,ht,hz⟩:=I.tuple hq
 refine assign_Tuple_tuple (I.ok.hd hc) ht (by simp [hn,<- hl,rv.length]) hst λh' hx=>?_
 have I1:Inv X pins σ H { s with heap:=h' }:=I.kept (t':=s.toks) λb o e=>hx b o (Nat.ne_of_lt (Heap.lt_size e)) e
 exact h pins _ σ H xs _ Q I1 (by simpa using rv) hw
def tAsg (te:TE)(g:TG):TS:=λD σ H=>te σ H λx H1=>g x σ H1 D.nx
theorem ps_asg {tg e:Expr}{te:TE}{g:TG}(he:PE X e te)(hg:PG X tg g)(hs:swapsWithSole [tg] e pos.line X.env=pure false:=by rfl)(hw:swappedStores [tg] e X.env=pure none:=by rfl)
  (h1:(assignEach [tg] X.env).map (·.2)=[assign tg X.env]:=by rfl):PS X (.Assign [tg] e pos) (tAsg te g):=by
 intro pins s σ H D I h
 refine wpAny_Assign_stores (thn (he pins s σ H _ I h) λv s1 ⟨x,H1,I1,r1,q1⟩=>?_) hs hw
 rw [h1]
 exact thn (hg pins s1 σ H1 x v _ I1 r1 q1) λ_ s2 q=>q
theorem q18 {i:Nat}{x:Str}{e:Expr}{te:TE}{pos':Pos}(hN:X.N.Nodup)(hi:X.N[i]? = some x)(hx:Loc X.env.scope x)(he:PE X e te)(hs:swapsWith e (some (.Name x pos')) pos.line X.env=pure false:=by rfl)(hf:X.fn x=true∨X.env.scope.names.lookup x=some .local:=by first | exact .inl rfl | exact .inr rfl | assumption) :
  PS X (.Assign [.Name x pos'] e pos) (tAsg te (q81 i)):=by
 intro pins s σ H D I h
 refine wpAny_Assign_Name (thn (he pins s σ H _ I h) λv s1 ⟨y,H1,I1,r1,q1⟩=>?_) hs
 exact qt7 I1 hN hi hx r1 (λs2 I2=>⟨_,H1,I2,q1⟩) hf
def tWhile (c:TT)(tb:TS):TS:=λD σ H=>∃ W:Nat->St->Hp->Prop,(∃ m,W m σ H)/\∀ m σ H,W m σ H ->
 c σ H λb H1=>if b=true then ∃ N:St->Hp->Prop,(∀ σ' H',N σ' H'->∃ m',m' < m/\W m' σ' H')/\tb { D with nx:=N,ct:=N,bk:=D.nx } σ H1 else D.nx σ H1
theorem z04 {c:Expr}{body:List Stmt}{tc:TT}{tb:TS}(hp:PassesOwn (model X.prog X.w) X.A X.env X.xe)(hc:PT X c tc)(hb:PSs X body tb):PS X (.While c body [] pos) (tWhile tc tb):=by
 intro pins s σ H D I h
 obtain ⟨W,⟨m0,w0⟩,turn⟩:=h
 refine wpAny_While (codeAny_whileLoop (λn s'=>∃ σ' H',Inv X pins σ' H' s'/\W n σ' H') ?_ m0 ⟨σ,H,I,w0⟩)
 rintro n s1 ⟨σ1,H1,I1,w1⟩
 refine wpAny_passesOwn hp (thn (hc pins s1 σ1 H1 _ I1 (turn n σ1 H1 w1)) λb s2 ⟨H2,I2,q2⟩=>?_)
 cases b with
 | true =>
  obtain ⟨N,hN,q2⟩:=q2
  rw [if_pos rfl]
  refine wpAny_passesOwn hp (thn (hb pins s2 σ1 H2 _ I2 q2) λf s3 q3=>?_)
  cases f with
  | next =>
   obtain ⟨σ3,H3,I3,n3⟩:=q3
   obtain ⟨m',hm,w3⟩:=hN σ3 H3 n3
   exact ⟨m',hm,σ3,H3,I3,w3⟩
  | cont =>
   obtain ⟨σ3,H3,I3,n3⟩:=q3
   obtain ⟨m',hm,w3⟩:=hN σ3 H3 n3
   exact ⟨m',hm,σ3,H3,I3,w3⟩
  | brk=>exact q3
  | ret v=>exact q3
 | false =>
  rw [if_neg Bool.false_ne_true]
  exact wpAny_execs_nil ⟨σ1,H2,I2,q2⟩
end
structure It where
 go:Nat->Hp->Prop
 yld:Nat->Hp->V->Hp->Prop
 stop:Nat->Hp->Prop
def qj5 (X:Cx)(pins:List (Addr×Obj))(H:Hp)(b:Addr):Prop :=
 H b=none/\b≠X.env.locals/\b∉X.fs/\(b∈X.ex∨X.s₀.heap.objs.size<=b)/\(∀ x c,X.env.cells.lookup x=some c->c≠b)/\∀ p∈X.pn ++ pins,p.1≠b
theorem Inv.fpOk {X:Cx}{pins:List (Addr×Obj)}{σ:St}{H H':Hp}{s:Shared}{b:Addr}(I:Inv X pins σ H s)(hb:s.heap.objs.size<=b)(hn:H' b=none):qj5 X pins H' b:=by
 refine ⟨hn,Nat.ne_of_gt (Nat.lt_of_lt_of_le I.lt hb),I.nofs hb,.inr (Nat.le_trans I.sz hb),λx c e z=>?_,λp hp z=>?_⟩
 ·obtain ⟨v,q⟩:=I.cell x c e
  exact absurd (Nat.lt_of_lt_of_le q.lt (by rw [z]; exact hb)) (Nat.lt_irrefl _)
 ·exact absurd (Nat.lt_of_lt_of_le (Heap.lt_size (I.pin p hp).1) (by rw [z]; exact hb)) (Nat.lt_irrefl _)
structure Turn (P:Program) (w:World) (K:PySem.W.Frag) (tg:Expr) (J:It) (fp:List Addr) (it:Addr) (tn:Nat->Heap->Prop):Prop where
 mem:it∈fp
 obj:∀ i h,tn i h->∀ b∈fp,∃ o,h.get? b=some o/\∀ v,o.data≠.cell v
 keep:∀ i h h',tn i h->(∀ b∈fp,∀ o,h.get? b=some o->h'.get? b=some o)->tn i h'
 item:∀(X:Cx),X.prog=P->X.w=w->X.K=K->X.calm=true->∀(i:Nat) (pins:List (Addr×Obj)) (s:Shared) (σ:St) (H:Hp) (E:Value->Shared->Prop),Inv X pins σ H s->(∀ b∈fp,qj5 X pins H b)->tn i s.heap->J.go i H ->
  wpAny (model P w) X.A (pyNext (.ref it)) (λr s1=>∃ u,r=some u /\
   wpAny (model P w) X.A (letOwnedTupleGo tg (.ref it) u) (λ_ s2=>∃ x H',Inv X pins σ H' s2/\RelV x u/\J.yld i H x H'/\tn (i + 1) s2.heap/\∀ b∈fp,H' b=none) E s1) E s
 done:∀(X:Cx),X.prog=P->X.w=w->X.K=K->X.calm=true->∀(i:Nat) (pins:List (Addr×Obj)) (s:Shared) (σ:St) (H:Hp) (E:Value->Shared->Prop),Inv X pins σ H s->(∀ b∈fp,qj5 X pins H b)->tn i s.heap->J.stop i H ->
  wpAny (model P w) X.A (pyNext (.ref it)) (λr s1=>r=none/\Inv X pins σ H s1) E s
 self:∀(A:Around) (i:Nat) (s:Shared) (Q:Value->Shared->Prop) (E:Value->Shared->Prop),tn i s.heap->Q (.ref it) s->wpAny (model P w) A (pyIter (.ref it)) Q E s
abbrev TI:=St->Hp->(It->Hp->Prop)->Prop
def PIE (X:Cx)(pins:List (Addr×Obj))(σ:St)(tg:Expr)(R:It->Hp->Prop)(itv:Value)(s2:Shared):Prop :=
 ∃(it:Addr) (fp:List Addr) (tn:Nat->Heap->Prop) (J:It) (H':Hp),itv=.ref it/\Inv X pins σ H' s2/\Turn X.prog X.w X.K tg J fp it tn/\tn 0 s2.heap/\(∀ b∈fp,qj5 X pins H' b)/\R J H'
def PI (X:Cx)(tg iter:Expr)(wi:TI):Prop :=
 ∀(pins:List (Addr×Obj)) (s:Shared) (σ:St) (H:Hp) (R:It->Hp->Prop),Inv X pins σ H s->wi σ H R ->
  wpAny (model X.prog X.w) X.A (eval iter X.env) (λv s1=>wpAny (model X.prog X.w) X.A (pyIter v) (PIE X pins σ tg R) X.xe s1) X.xe s
theorem qU2 {M:Model}{A:Around}{E:Value->Shared->Prop}{s:Shared}{tg:Expr}{it:Addr}{u:Value}{o:Obj}{n:String}{vs:Array Value}{Q:Unit->Shared->Prop}(ho:s.heap.get? it=some o)(hc:o.cls=.type n)(hd:o.data=.fields vs)
  (hn:["enumerate", "zip", "dict_itemiterator", "dict_reverseitemiterator", "odict_iterator", "itertools.zip_longest", "itertools.pairwise"].contains n=false) (hQ:Q () s):wpAny M A (letOwnedTupleGo tg (.ref it) u) Q E s:=by
 unfold letOwnedTupleGo
 cases tg <;> first
  | exact wpAny_pure hQ
  | (cases u <;> first
    | exact wpAny_pure hQ
    | (refine wpAny_bind (wpAny_load ho ?_)
       rw [hc,hd]
       show wpAny M A (if (["enumerate", "zip", "dict_itemiterator", "dict_reverseitemiterator", "odict_iterator", "itertools.zip_longest", "itertools.pairwise"].contains n && vs[0]? == some (rawInt _))=true then _ else _) Q E s
       rw [if_neg (by intro h; rw [hn,Bool.false_and] at h; cases h)]
       exact wpAny_pure hQ))
def Itl (K:PySem.W.Frag)(a:Addr):It :=
 ⟨λi H=>∃ xs x,SqL K H a xs/\xs[i]? = some x,λi H x H'=>H'=H/\∀ xs,SqL K H a xs->xs[i]? = some x,λi H=>∃ xs,SqL K H a xs/\xs.length<=i⟩
def Itt (K:PySem.W.Frag)(a:Addr):It :=
 ⟨λi H=>∃ xs x,SqT K H a xs/\xs[i]? = some x,λi H x H'=>H'=H/\∀ xs,SqT K H a xs->xs[i]? = some x,λi H=>∃ xs,SqT K H a xs/\xs.length<=i⟩
def Itr (lo:Int)(n:Nat):It:=⟨λi _=>i < n,λi H x H'=>H'=H/\x=.int (lo + i),λi _=>n<=i⟩
theorem qM9 {P:Program}{w:World}{K:PySem.W.Frag}{tg:Expr}(a it:Addr):Turn P w K tg (Itl K a) [it] it (λi h=>h.IsListIter it a i) where
 mem:=by simp
 obj:=λi h st b hb=>by
  have e:b=it:=by simpa using hb
  subst e
  obtain ⟨o,e,c,d⟩:=st
  exact ⟨o,e,λv z=>by rw [d] at z; cases z⟩
 keep:=λi h h' st k=>st.at λo e=>k it (by simp) o e
 item:=by
  intro X hP hw hK hc i pins s σ H E I hf st hg
  subst hP hw hK
  obtain ⟨xs,x,hq,hx⟩:=hg
  obtain ⟨its,rv,p,hz⟩:=I.list hq
  obtain ⟨u,hu,ru⟩:=rv.get hx
  obtain ⟨f0,f1,f2,f3,f4,f5⟩:=hf it (by simp)
  refine wpAny_pyNext_list_item st p.isList (x:=u) (by simpa using hu) λh' st' sb=>?_
  have I1:Inv X pins σ H { s with heap:=h' }:=I.turned (t':=s.toks) (λb o hb e=>(sb.2 b hb).trans e) f0 f1 f3 f4 f5
  obtain ⟨o,e,c,d⟩:=id st'
  exact ⟨u,rfl,qU2 (s:={ s with heap:=h' }) e c d (by decide) ⟨x,H,I1,ru,⟨rfl,λys hy=>by rw [I.list_inj hy hq]; exact hx⟩,st',λb hb=>(hf b hb).1⟩⟩
 done:=by
  intro X hP hw hK hc i pins s σ H E I hf st hg
  subst hP hw hK
  obtain ⟨xs,hq,hx⟩:=hg
  obtain ⟨its,rv,p,hz⟩:=I.list hq
  obtain ⟨f0,f1,f2,f3,f4,f5⟩:=hf it (by simp)
  have hl:=rv.length
  exact wpAny_pyNext_list_end (I.ok.hd hc) st p.isList (by simp; omega) λh' eb=>⟨rfl,I.turned (t':=s.toks) (λb o hb e=>eb b o hb e) f0 f1 f3 f4 f5⟩
 self:=λ_ _ _ _ _ st h=>wpAny_pyIter_listiter st h
theorem qI9 {P:Program}{w:World}{K:PySem.W.Frag}{tg:Expr}(a it:Addr):Turn P w K tg (Itt K a) [it] it (λi h=>h.IsTupleIter it a i) where
 mem:=by simp
 obj:=λi h st b hb=>by
  have e:b=it:=by simpa using hb
  subst e
  obtain ⟨o,e,c,d⟩:=st
  exact ⟨o,e,λv z=>by rw [d] at z; cases z⟩
 keep:=λi h h' st k=>st.at λo e=>k it (by simp) o e
 item:=by
  intro X hP hw hK hc i pins s σ H E I hf st hg
  subst hP hw hK
  obtain ⟨xs,x,hq,hx⟩:=hg
  obtain ⟨its,rv,p,hz⟩:=I.tuple hq
  obtain ⟨u,hu,ru⟩:=rv.get hx
  obtain ⟨f0,f1,f2,f3,f4,f5⟩:=hf it (by simp)
  refine wpAny_pyNext_tuple_item st (show s.heap.IsTuple a its.toArray from p) (x:=u) (by simpa using hu) λh' st' sb=>?_
  have I1:Inv X pins σ H { s with heap:=h' }:=I.turned (t':=s.toks) (λb o hb e=>(sb.2 b hb).trans e) f0 f1 f3 f4 f5
  obtain ⟨o,e,c,d⟩:=id st'
  exact ⟨u,rfl,qU2 (s:={ s with heap:=h' }) e c d (by decide) ⟨x,H,I1,ru,⟨rfl,λys hy=>by rw [I.tuple_inj hy hq]; exact hx⟩,st',λb hb=>(hf b hb).1⟩⟩
 done:=by
  intro X hP hw hK hc i pins s σ H E I hf st hg
  subst hP hw hK
  obtain ⟨xs,hq,hx⟩:=hg
  obtain ⟨its,rv,p,hz⟩:=I.tuple hq
  obtain ⟨f0,f1,f2,f3,f4,f5⟩:=hf it (by simp)
  have hl:=rv.length
  exact wpAny_pyNext_tuple_end (I.ok.hd hc) st (show s.heap.IsTuple a its.toArray from p) (by simp; omega) λh' eb=>⟨rfl,I.turned (t':=s.toks) (λb o hb e=>eb b o hb e) f0 f1 f3 f4 f5⟩
 self:=λ_ _ _ _ _ st h=>wpAny_pyIter_tupleiter st h
theorem qJ0 {P:Program}{w:World}{K:PySem.W.Frag}{tg:Expr}(it:Addr)(lo:Int)(n:Nat):Turn P w K tg (Itr lo n) [it] it (λi h=>IsRangeIter h it (lo + (i:Nat) * 1) ((n:Int) - (i:Nat)) 1) where
 mem:=by simp
 obj:=λi h st b hb=>by
  have e:b=it:=by simpa using hb
  subst e
  exact ⟨_,st,λv z=>by
   have z':Data.fields _=Data.cell v:=z
   cases z'⟩
 keep:=λi h h' st k=>k it (by simp) _ st
 item:=by
  intro X hP hw hK hc i pins s σ H E I hf st hg
  subst hP hw hK
  obtain ⟨f0,f1,f2,f3,f4,f5⟩:=hf it (by simp)
  have W:=Walks.range (prog:=X.prog) (w:=X.w) (I.ok.hd hc) it lo 1 n
  refine W.item i s _ _ hg st λv h' tk hv st' kk=>?_
  obtain ⟨t,rfl⟩:=hv
  have I1:Inv X pins σ H { s with heap:=h',toks:=tk }:=I.turned (λb o hb e=>kk b o (by simpa using hb) e) f0 f1 f3 f4 f5
  refine ⟨_,rfl,qU2 (s:={ s with heap:=h',toks:=tk }) (n := "range_iterator") st' rfl rfl (by decide) ⟨.int (lo + i),H,I1,⟨t,?_⟩,⟨rfl,rfl⟩,st',λb hb=>(hf b hb).1⟩⟩
  rw [Int.mul_one]
 done:=by
  intro X hP hw hK hc i pins s σ H E I hf st hg
  subst hP hw hK
  obtain ⟨f0,f1,f2,f3,f4,f5⟩:=hf it (by simp)
  exact wpAny_pyNext_range_end (I.ok.hd hc) st (by have:n<=i:=hg; omega) λh' eb=>⟨rfl,I.turned (t':=s.toks) (λb o hb e=>eb b o hb e) f0 f1 f3 f4 f5⟩
 self:=λ_ _ _ _ _ st h=>wpAny_pyIter_rangeiter st h
section
variable {X:Cx}{tg:Expr}
def iList (K:PySem.W.Frag)(tl:TE):TI:=λσ H R=>tl σ H λx H1=>∃ a,x=.ref a/\(∃ xs,SqL K H1 a xs)/\R (Itl K a) H1
def iTup (K:PySem.W.Frag)(tl:TE):TI:=λσ H R=>tl σ H λx H1=>∃ a,x=.ref a/\(∃ xs,SqT K H1 a xs)/\R (Itt K a) H1
theorem q27 {l:Expr}{tl:TE}(hl:PE X l tl):PI X tg l (iList X.K tl):=by
 intro pins s σ H R I h
 refine thn (hl pins s σ H _ I h) λv s1 ⟨x,H1,I1,r1,q1⟩=>?_
 obtain ⟨a,e,⟨xs,hq⟩,q⟩:=q1
 subst e
 cases r1
 obtain ⟨its,rv,p,hz⟩:=I1.list hq
 refine wpAny_pyIter_list p.isList ?_
 refine ⟨s1.heap.objs.size,[s1.heap.objs.size],_,_,H1,rfl,I1.kept (t':=s1.toks) λb o e=>Heap.get?_push_of_some _ e,qM9 a _,⟨_,Heap.get?_push_size _ rfl,rfl,rfl⟩,λb hb=>?_,q⟩
 have e:b=s1.heap.objs.size:=by simpa using hb
 subst e
 exact I1.fpOk (Nat.le_refl _) (I1.hok.fresh (Nat.le_refl _))
theorem pi_tup {l:Expr}{tl:TE}(hl:PE X l tl):PI X tg l (iTup X.K tl):=by
 intro pins s σ H R I h
 refine thn (hl pins s σ H _ I h) λv s1 ⟨x,H1,I1,r1,q1⟩=>?_
 obtain ⟨a,e,⟨xs,hq⟩,q⟩:=q1
 subst e
 cases r1
 obtain ⟨its,rv,p,hz⟩:=I1.tuple hq
 refine wpAny_pyIter_tuple (show s1.heap.IsTuple a its.toArray from p) ?_
 refine ⟨s1.heap.objs.size,[s1.heap.objs.size],_,_,H1,rfl,I1.kept (t':=s1.toks) λb o e=>Heap.get?_push_of_some _ e,qI9 a _,⟨_,Heap.get?_push_size _ rfl,rfl,rfl⟩,λb hb=>?_,q⟩
 have e:b=s1.heap.objs.size:=by simpa using hb
 subst e
 exact I1.fpOk (Nat.le_refl _) (I1.hok.fresh (Nat.le_refl _))
theorem qF5 {pins:List (Addr×Obj)}{σ:St}{H:Hp}{s:Shared}{R:It->Hp->Prop}{E:Value->Shared->Prop}{lo hi:Int}{t u v:Tok}{tk:Nat}(I:Inv X pins σ H s)(h1 : -(2 ^ 62)<=lo)(h2:lo < 2 ^ 62)(h3 : -(2 ^ 62)<=hi)(h4:hi < 2 ^ 62)
  (q:R (Itr lo (hi - lo).toNat) H):wpAny (model X.prog X.w) X.A (pyIter (.ref s.heap.objs.size)) (PIE X pins σ tg R) E { s with heap:=s.heap.push { cls:=.type "range",data:=.fields #[.int lo t,.int hi u,.int 1 v] },toks:=tk }:=by
 refine wpAny_pyIter_range (IsRange.new ..) (small_one h1 h2 h3 h4) ?_
 have I1:Inv X pins σ H { s with heap:=s.heap.push { cls:=.type "range",data:=.fields #[.int lo t,.int hi u,.int 1 v] },toks:=tk }:=I.kept λb o e=>Heap.get?_push_of_some _ e
 refine ⟨(s.heap.push { cls:=.type "range",data:=.fields #[.int lo t,.int hi u,.int 1 v] }).objs.size,[(s.heap.push { cls:=.type "range",data:=.fields #[.int lo t,.int hi u,.int 1 v] }).objs.size],_,_,H,rfl,
  I1.kept (t':=tk) λb o e=>Heap.get?_push_of_some _ e,qJ0 _ lo (hi - lo).toNat,?_,λb hb=>?_,q⟩
 ·have e1:lo + ((0:Nat):Int) * 1=lo:=by simp
  have e2:(((hi - lo).toNat:Nat):Int) - ((0:Nat):Int)=Builtin.Range.rangeSize lo hi 1:=by rw [rangeSize_one]; split <;> omega
  show IsRangeIter _ _ (lo + ((0:Nat):Int) * 1) ((((hi - lo).toNat:Nat):Int) - ((0:Nat):Int)) 1
  rw [e1,e2]
  exact Heap.get?_push_size _ rfl
 ·have e:b=(s.heap.push { cls:=.type "range",data:=.fields #[.int lo t,.int hi u,.int 1 v] }).objs.size:=by simpa using hb
  subst e
  exact I1.fpOk (Nat.le_refl _) (I1.hok.fresh (Nat.le_refl _))
def iRng1 (ta:TA):TI:=λσ H R=>ta σ H λvs H1=>∃ j:Int,vs=[.int j] /\ -(2 ^ 62)<=j/\j < 2 ^ 62/\R (Itr 0 j.toNat) H1
def iRng2 (ta:TA):TI:=λσ H R=>ta σ H λvs H1=>∃ i j:Int,vs=[.int i,.int j]/\(-(2 ^ 62)<=i/\i < 2 ^ 62 /\ -(2 ^ 62)<=j/\j < 2 ^ 62)/\R (Itr i (j - i).toNat) H1
theorem q31 {a:Expr}{ta:TA}{p pos:Pos}(hg:Gl X "range") (hm:X.mg "range" = none) (ha:PA X [a] ta) (hs:starEach [a] X.env=[(false,eval a X.env)]:=by rfl):PI X tg (.Call (.Name "range" p) [a] [] pos) (iRng1 ta):=by
 intro pins s σ H R I h
 refine Call_ (qi5 I hg hm boot_range (PyProof.Rows.callWith_type1 (thn (ha pos pins s σ H _ I h) λus s1 ⟨vs,H1,I1,r1,q1⟩=>?_) hs rfl))
 obtain ⟨j,e,q1,q2,q⟩:=q1
 subst e
 cases r1 with
 | cons r rr =>
  cases rr
  obtain ⟨t,rfl⟩:=r
  exact call_range_1 (qF5 I1 (by omega) (by omega) q1 q2 (by simpa using q))
theorem qp2 {a b:Expr}{ta:TA}{p pos:Pos}(hg:Gl X "range") (hm:X.mg "range" = none) (ha:PA X [a,b] ta) (hs:starEach [a,b] X.env=[(false,eval a X.env),(false,eval b X.env)]:=by rfl) (hs2:starEach [b] X.env=[(false,eval b X.env)]:=by rfl) :
  PI X tg (.Call (.Name "range" p) [a,b] [] pos) (iRng2 ta):=by
 intro pins s σ H R I h
 refine Call_ (qi5 I hg hm boot_range (PyProof.Rows.callWith_type1 (thn (ha pos pins s σ H _ I h) λus s1 ⟨vs,H1,I1,r1,q1⟩=>?_) (by rw [hs,hs2]) (by rw [hs2]; rfl)))
 obtain ⟨i,j,e,⟨q1,q2,q3,q4⟩,q⟩:=q1
 subst e
 cases r1 with
 | cons r rr =>
  cases rr with
  | cons r' rr =>
   cases rr
   obtain ⟨t,rfl⟩:=r
   obtain ⟨t',rfl⟩:=r'
   exact call_range_2 (qF5 I1 q1 q2 q3 q4 q)
def tFor (wi:TI)(g:TG)(tb:TS):TS:=λD σ H=>wi σ H λJ H1=>∃ W:Nat->Nat->St->Hp->Prop,(∃ m,W 0 m σ H1)/\∀ i m σ H,W i m σ H ->
 (J.stop i H/\D.nx σ H)∨(J.go i H/\∃ N:St->Hp->Prop,(∀ σ' H',N σ' H'->∃ m',m' < m/\W (i + 1) m' σ' H')/\∀ x H',J.yld i H x H'->g x σ H' λσ2 H2=>tb { D with nx:=N,ct:=N,bk:=D.nx } σ2 H2)
def qh9 (fp:List Addr)(h:Heap):List (Addr×Obj):=fp.filterMap λb=>(h.get? b).map λo=>(b,o)
theorem q66 {fp:List Addr}{h:Heap}{b:Addr}{o:Obj}(hb:b∈fp)(e:h.get? b=some o):(b,o)∈qh9 fp h:=List.mem_filterMap.mpr ⟨b,hb,by rw [e]; rfl⟩
theorem qR5 {fp:List Addr}{h:Heap}{p:Addr×Obj}(hp:p∈qh9 fp h):p.1∈fp/\h.get? p.1=some p.2:=by
 obtain ⟨b,hb,e⟩:=List.mem_filterMap.mp hp
 cases q:h.get? b with
 | none=>rw [q] at e; cases e
 | some o =>
  rw [q] at e
  have e':(b,o)=p:=Option.some.inj e
  subst e'
  exact ⟨hb,q⟩
theorem Inv.pinned {pins:List (Addr×Obj)}{σ:St}{H:Hp}{s:Shared}{fp:List Addr}(I:Inv X pins σ H s)(hf:∀ b∈fp,qj5 X pins H b)(ho:∀ b∈fp,∃ o,s.heap.get? b=some o/\∀ v,o.data≠.cell v):Inv X (pins ++ qh9 fp s.heap) σ H s :=
 I.pins_of λp hp=>(List.mem_append.mp hp).elim (λz=>I.pin p (List.mem_append_right _ z)) λz=>by
  obtain ⟨hb,e⟩:=qR5 z
  obtain ⟨f0,f1,f2,_⟩:=hf p.1 hb
  obtain ⟨o,e',d⟩:=ho p.1 hb
  rw [e] at e'; cases e'
  exact ⟨e,f0,f1,f2,d⟩
theorem Inv.unpinned {pins pl:List (Addr×Obj)}{σ:St}{H:Hp}{s:Shared}(I:Inv X (pins ++ pl) σ H s):Inv X pins σ H s:=I.pins_of λp hp=>I.pin p (List.mem_append_right _ (List.mem_append_left _ hp))
theorem q36 {iter:Expr}{body:List Stmt}{wi:TI}{g:TG}{tb:TS}{pos:Pos}(hp:PassesOwn (model X.prog X.w) X.A X.env X.xe)(hc:X.calm=true)(hi:PI X tg iter wi)(hg:PG X tg g)(hb:PSs X body tb)
  (hs:∀ x,foldedSetIterable iter X.env x=pure x:=by intro _; rfl):PS X (.For tg iter body [] pos) (tFor wi g tb):=by
 intro pins s σ H D I h
 refine wpAny_For (thn (hi pins s σ H _ I h) λv s1 h1=>thn h1 λitv s2 h2=>?_) hs
 obtain ⟨it,fp,tn,J,H2,e,I2,T,st2,f2,W,⟨m0,w0⟩,turn⟩:=h2
 subst e
 have stat:∀{H':Hp},(∀ b∈fp,H' b=none)->∀ b∈fp,qj5 X pins H' b:=λhn b hb=>⟨hn b hb,(f2 b hb).2⟩
 refine codeAny_forLoop_any (λn s'=>∃ i σ' H',Inv X pins σ' H' s'/\tn i s'.heap/\(∀ b∈fp,H' b=none)/\W i n σ' H') ?_ m0 ⟨0,σ,H2,I2,st2,λb hb=>(f2 b hb).1,w0⟩
 rintro n s3 ⟨i,σ3,H3,I3,st3,fr3,w3⟩
 rcases turn i n σ3 H3 w3 with ⟨stop,qn⟩ | ⟨go,N,hN,step⟩
 ·refine wpAny_passesOwn hp (thn (T.done X rfl rfl rfl hc i pins s3 σ3 H3 X.xe I3 (stat fr3) st3 stop) λr s4 ⟨hr,I4⟩=>?_)
  subst hr
  exact wpAny_execs_nil ⟨σ3,H3,I4,qn⟩
 ·refine wpAny_passesOwn hp (thn (T.item X rfl rfl rfl hc i pins s3 σ3 H3 X.xe I3 (stat fr3) st3 go) λr s4 ⟨u,hr,h4⟩=>?_)
  subst hr
  refine wpAny_passesOwn hp (thn h4 λ_ s5 ⟨x,H5,I5,r5,y5,st5,fr5⟩=>?_)
  have I5':=I5.pinned (stat fr5) (T.obj _ _ st5)
  refine wpAny_passesOwn hp (thn (hg _ s5 σ3 H5 x u _ I5' r5 (step x H5 y5)) λ_ s6 ⟨σ6,H6,I6,q6⟩=>?_)
  refine wpAny_passesOwn hp (thn (hb _ s6 σ6 H6 _ I6 q6) λf s7 q7=>?_)
  have again:∀{σ7:St} {H7:Hp},Inv X (pins ++ qh9 fp s5.heap) σ7 H7 s7->N σ7 H7->∃ m,m < n/\∃ i σ' H',Inv X pins σ' H' s7/\tn i s7.heap/\(∀ b∈fp,H' b=none)/\W i m σ' H':=λ{σ7 H7} I7 n7=>by
   obtain ⟨m',hm,w7⟩:=hN σ7 H7 n7
   refine ⟨m',hm,i + 1,σ7,H7,I7.unpinned,T.keep _ _ _ st5 λb hb o e=>(I7.pin (b,o) (List.mem_append_right _ (List.mem_append_right _ (q66 hb e)))).1,λb hb=>?_,w7⟩
   obtain ⟨o,e,d⟩:=T.obj _ _ st5 b hb
   exact (I7.pin (b,o) (List.mem_append_right _ (List.mem_append_right _ (q66 hb e)))).2.1
  cases f with
  | next=>obtain ⟨σ7,H7,I7,n7⟩:=q7; exact again I7 n7
  | cont=>obtain ⟨σ7,H7,I7,n7⟩:=q7; exact again I7 n7
  | brk=>obtain ⟨σ7,H7,I7,q7⟩:=q7; exact ⟨σ7,H7,I7.unpinned,q7⟩
  | ret v=>obtain ⟨x7,σ7,H7,I7,r7,q7⟩:=q7; exact ⟨x7,σ7,H7,I7.unpinned,r7,q7⟩
end
theorem q62 {K:PySem.W.Frag}{a:Addr}{xs:List V}{g:TG}{tb:TS}{D:Ends}{σ:St}{H:Hp}(Pv:Nat->St->Hp->Prop)(h0:Pv 0 σ H)(hl:∀ i σ H,i<=xs.length->Pv i σ H->SqL K H a xs)
  (hs:∀ i x σ H,xs[i]? = some x->Pv i σ H->g x σ H λσ2 H2=>tb { D with nx:=Pv (i + 1),ct:=Pv (i + 1),bk:=D.nx } σ2 H2) (hd:∀ σ H,Pv xs.length σ H->D.nx σ H) :
  ∃ W:Nat->Nat->St->Hp->Prop,(∃ m,W 0 m σ H)/\∀ i m σ H,W i m σ H ->
   ((Itl K a).stop i H/\D.nx σ H)∨((Itl K a).go i H/\∃ N:St->Hp->Prop,(∀ σ' H',N σ' H'->∃ m',m' < m/\W (i + 1) m' σ' H')/\∀ x H',(Itl K a).yld i H x H'->g x σ H' λσ2 H2=>tb { D with nx:=N,ct:=N,bk:=D.nx } σ2 H2):=by
 refine ⟨λi m σ H=>m=xs.length - i/\i<=xs.length/\Pv i σ H,⟨xs.length,by simp,Nat.zero_le _,h0⟩,?_⟩
 rintro i m σ H ⟨rfl,hi,p⟩
 have q:=hl i σ H hi p
 by_cases hlt:i < xs.length
 ·refine .inr ⟨⟨xs,xs[i],q,by simp [hlt]⟩,Pv (i + 1),λσ' H' p'=>⟨xs.length - (i + 1),by omega,rfl,hlt,p'⟩,λx H' y=>?_⟩
  obtain ⟨e,y⟩:=y
  subst e
  exact hs i x σ _ (y xs q) p
 ·have e:i=xs.length:=by omega
  subst e
  exact .inl ⟨⟨xs,q,Nat.le_refl _⟩,hd σ H p⟩
theorem for_tup {K:PySem.W.Frag}{a:Addr}{xs:List V}{g:TG}{tb:TS}{D:Ends}{σ:St}{H:Hp}(Pv:Nat->St->Hp->Prop)(h0:Pv 0 σ H)(hl:∀ i σ H,i<=xs.length->Pv i σ H->SqT K H a xs)
  (hs:∀ i x σ H,xs[i]? = some x->Pv i σ H->g x σ H λσ2 H2=>tb { D with nx:=Pv (i + 1),ct:=Pv (i + 1),bk:=D.nx } σ2 H2) (hd:∀ σ H,Pv xs.length σ H->D.nx σ H) :
  ∃ W:Nat->Nat->St->Hp->Prop,(∃ m,W 0 m σ H)/\∀ i m σ H,W i m σ H ->
   ((Itt K a).stop i H/\D.nx σ H)∨((Itt K a).go i H/\∃ N:St->Hp->Prop,(∀ σ' H',N σ' H'->∃ m',m' < m/\W (i + 1) m' σ' H')/\∀ x H',(Itt K a).yld i H x H'->g x σ H' λσ2 H2=>tb { D with nx:=N,ct:=N,bk:=D.nx } σ2 H2):=by
 refine ⟨λi m σ H=>m=xs.length - i/\i<=xs.length/\Pv i σ H,⟨xs.length,by simp,Nat.zero_le _,h0⟩,?_⟩
 rintro i m σ H ⟨rfl,hi,p⟩
 have q:=hl i σ H hi p
 by_cases hlt:i < xs.length
 ·refine .inr ⟨⟨xs,xs[i],q,by simp [hlt]⟩,Pv (i + 1),λσ' H' p'=>⟨xs.length - (i + 1),by omega,rfl,hlt,p'⟩,λx H' y=>?_⟩
  obtain ⟨e,y⟩:=y
  subst e
  exact hs i x σ _ (y xs q) p
 ·have e:i=xs.length:=by omega
  subst e
  exact .inl ⟨⟨xs,q,Nat.le_refl _⟩,hd σ H p⟩
theorem q49 {lo:Int}{n:Nat}{g:TG}{tb:TS}{D:Ends}{σ:St}{H:Hp}(Pv:Nat->St->Hp->Prop)(h0:Pv 0 σ H)
  (hs:∀ i σ H,i < n->Pv i σ H->g (.int (lo + i)) σ H λσ2 H2=>tb { D with nx:=Pv (i + 1),ct:=Pv (i + 1),bk:=D.nx } σ2 H2) (hd:∀ σ H,Pv n σ H->D.nx σ H) :
  ∃ W:Nat->Nat->St->Hp->Prop,(∃ m,W 0 m σ H)/\∀ i m σ H,W i m σ H ->
   ((Itr lo n).stop i H/\D.nx σ H)∨((Itr lo n).go i H/\∃ N:St->Hp->Prop,(∀ σ' H',N σ' H'->∃ m',m' < m/\W (i + 1) m' σ' H')/\∀ x H',(Itr lo n).yld i H x H'->g x σ H' λσ2 H2=>tb { D with nx:=N,ct:=N,bk:=D.nx } σ2 H2):=by
 refine ⟨λi m σ H=>m=n - i/\i<=n/\Pv i σ H,⟨n,by simp,Nat.zero_le _,h0⟩,?_⟩
 rintro i m σ H ⟨rfl,hi,p⟩
 by_cases hlt:i < n
 ·refine .inr ⟨hlt,Pv (i + 1),λσ' H' p'=>⟨n - (i + 1),by omega,rfl,hlt,p'⟩,λx H' y=>?_⟩
  obtain ⟨e,y⟩:=y
  subst e y
  exact hs i σ _ hlt p
 ·have e:i=n:=by omega
  subst e
  exact .inl ⟨Nat.le_refl _,hd σ H p⟩
abbrev R2:=V->V->Hp->VK->Prop
def OpR (X:Cx)(f:Value->Value->Sem Value)(r:R2):Prop :=
 ∀(pins:List (Addr×Obj)) (s:Shared) (σ:St) (H:Hp) (x y:V) (v u:Value) (Q:VK),Inv X pins σ H s->RelV x v->RelV y u->r x y H Q ->
  wpAny (model X.prog X.w) X.A (f v u) (EP X pins σ Q) X.xe s
def UnR (X:Cx)(f:Value->Sem Value)(r:V->Hp->VK->Prop):Prop :=
 ∀(pins:List (Addr×Obj)) (s:Shared) (σ:St) (H:Hp) (x:V) (v:Value) (Q:VK),Inv X pins σ H s->RelV x v->r x H Q ->
  wpAny (model X.prog X.w) X.A (f v) (EP X pins σ Q) X.xe s
def qj3 (X:Cx)(f:Value)(r:List V->Hp->VK->Prop):Prop :=
 ∀(pins:List (Addr×Obj)) (s:Shared) (σ:St) (H:Hp) (xs:List V) (us:List Value) (Q:VK),Inv X pins σ H s->Vals xs us->r xs H Q ->
  wpAny (model X.prog X.w) X.A (call f us) (EP X pins σ Q) X.xe s
def TruR (X:Cx)(r:V->Hp->(Bool->Hp->Prop)->Prop):Prop :=
 ∀(pins:List (Addr×Obj)) (s:Shared) (σ:St) (H:Hp) (x:V) (v:Value) (Q:Bool->Hp->Prop),Inv X pins σ H s->RelV x v->r x H Q ->
  wpAny (model X.prog X.w) X.A (truthy v) (TP X pins σ Q) X.xe s
def tOp (r:R2)(ta tb:TE):TE:=λσ H Q=>ta σ H λx H1=>tb σ H1 λy H2=>r x y H2 Q
def tUn (r:V->Hp->VK->Prop)(ta:TE):TE:=λσ H Q=>ta σ H λx H1=>r x H1 Q
def rI (C:Int->Int->Prop)(g:Int->Int->V):R2:=λx y H Q=>∃ i j,x=.int i/\y=.int j/\C i j/\Q (g i j) H
def rI0 (g:Int->Int->V):R2:=λx y H Q=>∃ i j,x=.int i/\y=.int j/\Q (g i j) H
def rU (g:Int->V):V->Hp->VK->Prop:=λx H Q=>∃ i,x=.int i/\Q (g i) H
section
variable {X:Cx}{a b c:Expr}{ta tb tc:TE}{pos:Pos}
theorem binT (ha:PE X a ta)(hb:PE X b tb){pins:List (Addr×Obj)}{s:Shared}{σ:St}{H:Hp}{R:V->V->Hp->Prop}(I:Inv X pins σ H s)
  (h:ta σ H λx H1=>tb σ H1 λy H2=>R x y H2) {Q:Value->Shared->Prop} {f:Value->Value->Sem Value}
  (hf:∀ v u s2 x y H2,Inv X pins σ H2 s2->RelV x v->RelV y u->R x y H2->wpAny (model X.prog X.w) X.A (f v u) Q X.xe s2) :
  wpAny (model X.prog X.w) X.A (eval a X.env) (λv s₁=>wpAny (model X.prog X.w) X.A (eval b X.env) (λu s₂=>wpAny (model X.prog X.w) X.A (f v u) Q X.xe s₂) X.xe s₁) X.xe s:=by
 refine thn (ha pins s σ H _ I h) λv s1 ⟨x,H1,I1,r1,q1⟩=>?_
 refine thn (hb pins s1 σ H1 _ I1 q1) λu s2 ⟨y,H2,I2,r2,q2⟩=>?_
 exact hf v u s2 x y H2 I2 r1 r2 q2
theorem q24 {op:Operator}{r:R2}(ho:OpR X (binaryOp op) r)(ha:PE X a ta)(hb:PE X b tb):PE X (.BinOp a op b pos) (tOp r ta tb):=by
 intro pins s σ H Q I h
 exact wpAny_BinOp (binT ha hb I h λv u s2 x y H2 I2 rx ry q=>ho pins s2 σ H2 x y v u Q I2 rx ry q)
theorem pe_un {op:UnaryOp}{r:V->Hp->VK->Prop}(ho:UnR X (unaryOp op) r)(ha:PE X a ta):PE X (.UnaryOp op a pos) (tUn r ta):=by
 intro pins s σ H Q I h
 exact UnaryOp_ (thn (ha pins s σ H _ I h) λv s1 ⟨x,H1,I1,r1,q1⟩=>ho pins s1 σ H1 x v Q I1 r1 q1)
theorem opI {f:Value->Value->Sem Value}{C:Int->Int->Prop}{g:Int->Int->Int}
  (rule:∀(i j:Int) (t u:Tok) (s:Shared) (Q:Value->Shared->Prop) (E:Value->Shared->Prop),C i j->Q (.int (g i j) s.toks) { s with toks:=s.toks + 1 }->wpAny (model X.prog X.w) X.A (f (.int i t) (.int j u)) Q E s) :
  OpR X f (rI C λi j=>.int (g i j)):=by
 intro pins s σ H x y v u Q I rx ry h
 obtain ⟨i,j,rfl,rfl,hc,q⟩:=h
 obtain ⟨t,rfl⟩:=rx
 obtain ⟨t',rfl⟩:=ry
 exact rule i j t t' s _ _ hc ⟨.int (g i j),H,I.tok _,⟨_,rfl⟩,q⟩
theorem opI0 {f:Value->Value->Sem Value}{g:Int->Int->Int}
  (rule:∀(i j:Int) (t u:Tok) (s:Shared) (Q:Value->Shared->Prop) (E:Value->Shared->Prop),Q (.int (g i j) s.toks) { s with toks:=s.toks + 1 }->wpAny (model X.prog X.w) X.A (f (.int i t) (.int j u)) Q E s) :
  OpR X f (rI0 λi j=>.int (g i j)):=by
 intro pins s σ H x y v u Q I rx ry h
 obtain ⟨i,j,rfl,rfl,q⟩:=h
 obtain ⟨t,rfl⟩:=rx
 obtain ⟨t',rfl⟩:=ry
 exact rule i j t t' s _ _ ⟨.int (g i j),H,I.tok _,⟨_,rfl⟩,q⟩
theorem opB0 {f:Value->Value->Sem Value}{g:Int->Int->Bool}
  (rule:∀(i j:Int) (t u:Tok) (s:Shared) (Q:Value->Shared->Prop) (E:Value->Shared->Prop),Q (.bool (g i j)) s->wpAny (model X.prog X.w) X.A (f (.int i t) (.int j u)) Q E s) :
  OpR X f (rI0 λi j=>.bl (g i j)):=by
 intro pins s σ H x y v u Q I rx ry h
 obtain ⟨i,j,rfl,rfl,q⟩:=h
 obtain ⟨t,rfl⟩:=rx
 obtain ⟨t',rfl⟩:=ry
 exact rule i j t t' s _ _ ⟨.bl (g i j),H,I,rfl,q⟩
def CDiv (i j:Int):Prop:=0 < j/\j < 1073741824
def CPow (i j:Int):Prop:=0<=j/\j<=1000000/\i.natAbs < 2 ^ 64
def CMul (i j:Int):Prop:=(-(2 ^ 64) < i/\i < 2 ^ 64)∨(-(2 ^ 64) < j/\j < 2 ^ 64)
theorem CMul.ok {i j:Int}(h:CMul i j):IntMulOk i j:=by
 rcases h with ⟨h1,h2⟩ | ⟨h1,h2⟩
 ·exact .of_left (intBits_le_64 h1 h2)
 ·exact .of_right (intBits_le_64 h1 h2)
theorem q46:OpR X (binaryOp .Add) (rI0 λi j=>.int (i + j)):=opI0 λ_ _ _ _ _ _ _ q=>add_int q
theorem z80:OpR X (binaryOp .Sub) (rI0 λi j=>.int (i - j)):=opI0 λ_ _ _ _ _ _ _ q=>sub_int q
theorem qi1:OpR X (binaryOp .Mult) (rI CMul λi j=>.int (i * j)):=opI λ_ _ _ _ _ _ _ hc q=>mul_int q hc.ok
theorem qe7:OpR X (binaryOp .FloorDiv) (rI CDiv λi j=>.int (i / j)):=opI λi j _ _ _ _ _ hc q=>by
 have h1:(0:Int) < j:=hc.1
 have h2:j < 1073741824:=hc.2
 exact floordiv_int (by omega) (by rw [Int.fdiv_eq_ediv_of_nonneg i (by omega)]; exact q) (.inl (PyProof.noPylong_small (by omega)))
theorem q65:OpR X (binaryOp .Mod) (rI (λ_ j=>0 < j) λi j=>.int (i % j)):=opI λi j _ _ _ _ _ hc q=>by
 have h1:(0:Int) < j:=hc
 exact mod_int' (by omega) (by rw [Int.fmod_eq_emod_of_nonneg i (by omega)]; exact q)
theorem z81:OpR X (binaryOp .Pow) (rI CPow λi j=>.int (i ^ j.toNat)):=opI λ_ _ _ _ _ _ _ hc q=>pow_int_small hc.1 hc.2.1 hc.2.2 q
theorem unI {f:Value->Sem Value}{g:Int->Int}
  (rule:∀(i:Int) (t:Tok) (s:Shared) (Q:Value->Shared->Prop) (E:Value->Shared->Prop),Q (.int (g i) s.toks) { s with toks:=s.toks + 1 }->wpAny (model X.prog X.w) X.A (f (.int i t)) Q E s) :
  UnR X f (rU λi=>.int (g i)):=by
 intro pins s σ H x v Q I rx h
 obtain ⟨i,rfl,q⟩:=h
 obtain ⟨t,rfl⟩:=rx
 exact rule i t s _ _ ⟨.int (g i),H,I.tok _,⟨_,rfl⟩,q⟩
theorem un_neg:UnR X (unaryOp .USub) (rU λi=>.int (-i)):=unI λ_ _ _ _ _ q=>neg_int q
def scal:V->V->Bool
 | .non,.non=>true | .non,.int _=>true | .int _,.non=>true | .non,.bl _=>true | .bl _,.non=>true | .non,.str _=>true | .str _,.non=>true
 | .int _,.int _=>true | .bl _,.bl _=>true | .str _,.str _=>true | .byt _,.byt _=>true
 | .int _,.str _=>true | .str _,.int _=>true | .bl _,.str _=>true | .str _,.bl _=>true
 | _,_=>false
def rEq:R2:=λx y H Q=>scal x y=true/\Q (.bl (decide (x=y))) H
def rNe:R2:=λx y H Q=>scal x y=true/\Q (.bl (!decide (x=y))) H
theorem qb0 {i j:Int}:decide (V.int i=V.int j)=(i == j):=by
 rw [Bool.eq_iff_iff]
 simp
theorem qV4 {i j:Bool}:decide (V.bl i=V.bl j)=(i == j):=by
 rw [Bool.eq_iff_iff]
 simp
theorem qV2 {i j:Str}:decide (V.str i=V.str j)=(i == j):=by
 rw [Bool.eq_iff_iff]
 simp
theorem qV3 {i j:Array UInt8}:decide (V.byt i=V.byt j)=(i.toList == j.toList):=by
 rw [Bool.eq_iff_iff]
 cases i
 cases j
 simp
theorem q37 {pins:List (Addr×Obj)}{σ:St}{H:Hp}{s:Shared}{Q:VK}{k k':Bool}(I:Inv X pins σ H s)(q:Q (.bl k) H)(e:k=k'):EP X pins σ Q (.bool k') s:=by
 subst e
 exact ⟨.bl k,H,I,rfl,q⟩
theorem q58:OpR X (compareOp .Eq) rEq:=by
 intro pins s σ H x y v u Q I rx ry h
 obtain ⟨hs,q⟩:=h
 cases x with
 | non =>
  cases rx
  cases y with
  | non=>cases ry; exact PySem.EqNone.eq_none_none (q37 I q (by simp))
  | bl j=>cases ry; exact PySem.EqNone.eq_none_bool (q37 I q (by simp))
  | int j=>obtain ⟨t',rfl⟩:=ry; exact PySem.EqNone.eq_none_int (q37 I q (by simp))
  | str j=>obtain ⟨t',rfl⟩:=ry; exact PySem.EqNone.eq_none_str (q37 I q (by simp))
  | _=>exact absurd (show false=true from hs) Bool.false_ne_true
 | bl i =>
  cases rx
  cases y with
  | non=>cases ry; exact PySem.EqNone.eq_bool_none (q37 I q (by simp))
  | bl j=>cases ry; exact eq_bool (q37 I q qV4)
  | str j=>obtain ⟨t',rfl⟩:=ry; exact PySem.EqMixed.eq_bool_str (q37 I q (by simp))
  | _=>exact absurd (show false=true from hs) Bool.false_ne_true
 | int i =>
  obtain ⟨t,rfl⟩:=rx
  cases y with
  | non=>cases ry; exact PySem.EqNone.eq_int_none (q37 I q (by simp))
  | int j=>obtain ⟨t',rfl⟩:=ry; exact eq_int (q37 I q qb0)
  | str j=>obtain ⟨t',rfl⟩:=ry; exact PySem.EqMixed.eq_int_str (q37 I q (by simp))
  | _=>exact absurd (show false=true from hs) Bool.false_ne_true
 | str i =>
  obtain ⟨t,rfl⟩:=rx
  cases y with
  | non=>cases ry; exact PySem.EqNone.eq_str_none (q37 I q (by simp))
  | bl j=>cases ry; exact PySem.EqMixed.eq_str_bool (q37 I q (by simp))
  | int j=>obtain ⟨t',rfl⟩:=ry; exact PySem.EqMixed.eq_str_int (q37 I q (by simp))
  | str j=>obtain ⟨t',rfl⟩:=ry; exact eq_str (q37 I q qV2)
  | _=>exact absurd (show false=true from hs) Bool.false_ne_true
 | byt i =>
  obtain ⟨t,rfl⟩:=rx
  cases y with
  | byt j=>obtain ⟨t',rfl⟩:=ry; exact PySem.W.eq_bytes (q37 I q qV3)
  | _=>exact absurd (show false=true from hs) Bool.false_ne_true
 | _=>cases y <;> exact absurd (show false=true from hs) Bool.false_ne_true
theorem qv5:OpR X (compareOp .NotEq) rNe:=by
 intro pins s σ H x y v u Q I rx ry h
 obtain ⟨hs,q⟩:=h
 cases x with
 | non =>
  cases rx
  cases y with
  | non=>cases ry; exact PySem.EqNone.ne_none_none (q37 I q (by simp))
  | bl j=>cases ry; exact PySem.EqNone.ne_none_bool (q37 I q (by simp))
  | int j=>obtain ⟨t',rfl⟩:=ry; exact PySem.EqNone.ne_none_int (q37 I q (by simp))
  | str j=>obtain ⟨t',rfl⟩:=ry; exact PySem.EqNone.ne_none_str (q37 I q (by simp))
  | _=>exact absurd (show false=true from hs) Bool.false_ne_true
 | bl i =>
  cases rx
  cases y with
  | non=>cases ry; exact PySem.EqNone.ne_bool_none (q37 I q (by simp))
  | bl j=>cases ry; exact ne_bool (q37 I q (congrArg not qV4))
  | str j=>obtain ⟨t',rfl⟩:=ry; exact PySem.EqMixed.ne_bool_str (q37 I q (by simp))
  | _=>exact absurd (show false=true from hs) Bool.false_ne_true
 | int i =>
  obtain ⟨t,rfl⟩:=rx
  cases y with
  | non=>cases ry; exact PySem.EqNone.ne_int_none (q37 I q (by simp))
  | int j=>obtain ⟨t',rfl⟩:=ry; exact ne_int (q37 I q (congrArg not qb0))
  | str j=>obtain ⟨t',rfl⟩:=ry; exact PySem.EqMixed.ne_int_str (q37 I q (by simp))
  | _=>exact absurd (show false=true from hs) Bool.false_ne_true
 | str i =>
  obtain ⟨t,rfl⟩:=rx
  cases y with
  | non=>cases ry; exact PySem.EqNone.ne_str_none (q37 I q (by simp))
  | bl j=>cases ry; exact PySem.EqMixed.ne_str_bool (q37 I q (by simp))
  | int j=>obtain ⟨t',rfl⟩:=ry; exact PySem.EqMixed.ne_str_int (q37 I q (by simp))
  | str j=>obtain ⟨t',rfl⟩:=ry; exact ne_str (q37 I q (congrArg not qV2))
  | _=>exact absurd (show false=true from hs) Bool.false_ne_true
 | byt i =>
  obtain ⟨t,rfl⟩:=rx
  cases y with
  | byt j=>obtain ⟨t',rfl⟩:=ry; exact PySem.W.ne_bytes (q37 I q (congrArg not qV3))
  | _=>exact absurd (show false=true from hs) Bool.false_ne_true
 | _=>cases y <;> exact absurd (show false=true from hs) Bool.false_ne_true
theorem qk4:OpR X (compareOp .Lt) (rI0 λi j=>.bl (decide (i < j))):=opB0 λ_ _ _ _ _ _ _ q=>lt_int q
theorem op_le:OpR X (compareOp .LtE) (rI0 λi j=>.bl (decide (i<=j))):=opB0 λ_ _ _ _ _ _ _ q=>le_int q
theorem qJ8:OpR X (compareOp .Gt) (rI0 λi j=>.bl (decide (j < i))):=opB0 λ_ _ _ _ _ _ _ q=>gt_int q
theorem op_ge:OpR X (compareOp .GtE) (rI0 λi j=>.bl (decide (j<=i))):=opB0 λ_ _ _ _ _ _ _ q=>ge_int q
theorem qp4:OpR X (compareOp .In) (λx y H Q=>∃ i j,x=.str i/\y=.str j/\Q (.bl (!(Builtin.Str.occurrences j i 0 j.length 1).isEmpty)) H):=by
 intro pins s σ H x y v u Q I rx ry h
 obtain ⟨i,j,rfl,rfl,q⟩:=h
 obtain ⟨t,rfl⟩:=rx
 obtain ⟨t',rfl⟩:=ry
 exact in_str (q37 I q rfl)
theorem z82:OpR X (compareOp .Is) (λx y H Q=>y=.non/\Q (.bl (decide (x=.non))) H):=by
 intro pins s σ H x y v u Q I rx ry h
 obtain ⟨rfl,q⟩:=h
 cases ry
 refine is_none_gen (q37 I q ?_)
 cases x <;> first
  | (cases rx; rfl)
  | (obtain ⟨t,rfl⟩:=rx; rfl)
theorem q14 (b:Expr){op:CmpOp}(h:op≠.In:=by decide)(h2:op≠.NotIn:=by decide):behindInMarks op b=false:=by
 have e1:(op == CmpOp.In)=false:=by cases op <;> first | rfl | exact absurd rfl h
 have e2:(op == CmpOp.NotIn)=false:=by cases op <;> first | rfl | exact absurd rfl h2
 cases b <;> simp [behindInMarks,e1,e2]
theorem q50 {op:CmpOp}{r:R2}(ho:OpR X (compareOp op) r)(ha:PE X a ta)(hb:PE X b tb)(hm:behindInMarks op b=false):PE X (.Compare a [op] [b] pos) (tOp r ta tb):=by
 intro pins s σ H Q I h
 exact wpAny_Compare1 (binT ha hb I h λv u s2 x y H2 I2 rx ry q=>ho pins s2 σ H2 x y v u Q I2 rx ry q) hm
def tTest (t:TE):TT:=λσ H Q=>t σ H λx H'=>∃ k,x=.bl k/\Q k H'
theorem q11 {op:CmpOp}{r:R2}(ho:OpR X (compareOp op) r)(ha:PE X a ta)(hb:PE X b tb)(hm:behindInMarks op b=false):PT X (.Compare a [op] [b] pos) (tTest (tOp r ta tb)):=by
 intro pins s σ H Q I h
 refine wpAny_isTrue_Compare1 (thn (ha pins s σ H _ I h) λv s1 ⟨x,H1,I1,r1,q1⟩=>thn (hb pins s1 σ H1 _ I1 q1) λu s2 ⟨y,H2,I2,r2,q2⟩ =>
  thn (ho pins s2 σ H2 x y v u _ I2 r1 r2 q2) λc s3 ⟨z,H3,I3,r3,k,e,q3⟩=>?_) hm
 subst e
 cases r3
 exact wpAny_truthy_bool ⟨H3,I3,q3⟩
def TruV (K:PySem.W.Frag)(x:V)(H:Hp)(k:Bool):Prop :=
 match x with
 | .non=>k=false
 | .bl b=>k=b
 | .int i=>k=(i != 0)
 | .str y=>y.length<=sizeLine/\k=((y.length:Int) != 0)
 | .byt y=>y.size<=sizeLine/\k=((y.size:Int) != 0)
 | .ref p=>(∃ xs,SqL K H p xs/\k = !xs.isEmpty)∨(∃ xs,SqT K H p xs/\k = !xs.isEmpty)∨∃ kvs,H p=some (.dK kvs)/\k = !kvs.isEmpty
 | _=>False
theorem qK9 {κ:Type}{kvs:List (κ×V)}{vs:List (κ×Value)}(r:KV kvs vs):(!vs.isEmpty) = !kvs.isEmpty:=by
 cases r <;> rfl
theorem qs6 {xs:List V}{its:List Value}(r:Vals xs its):(!its.toArray.isEmpty) = !xs.isEmpty:=by
 cases r <;> simp
theorem qs5:(sizeLine:Nat) < 2 ^ 63:=by rw [sizeLine_eq]; decide
theorem tru_ok:TruR X (λx H Q=>∃ k,TruV X.K x H k/\Q k H):=by
 intro pins s σ H x v Q I rx h
 obtain ⟨k,e,q⟩:=h
 have hl:=qs5
 have hs:sizeLine=16777216:=sizeLine_eq
 cases x with
 | non =>
  cases rx
  have e':k=false:=e
  subst e'
  exact truthy_none ⟨H,I,q⟩
 | bl b =>
  cases rx
  have e':k=b:=e
  subst e'
  exact wpAny_truthy_bool ⟨H,I,q⟩
 | int i =>
  obtain ⟨t,rfl⟩:=rx
  have e':k=(i != 0):=e
  subst e'
  exact PySem.P.truthy_int ⟨H,I,q⟩
 | str y =>
  obtain ⟨t,rfl⟩:=rx
  obtain ⟨hy,e'⟩:y.length<=sizeLine/\k=((y.length:Int) != 0):=e
  subst e'
  exact PySem.P.truthy_str (by omega) ⟨H,I.tok _,q⟩
 | byt y =>
  obtain ⟨t,rfl⟩:=rx
  obtain ⟨hy,e'⟩:y.size<=sizeLine/\k=((y.size:Int) != 0):=e
  subst e'
  exact PySem.W.truthy_bytes (by omega) ⟨H,I.tok _,q⟩
 | ref p =>
  cases rx
  have e':(∃ xs,SqL X.K H p xs/\k = !xs.isEmpty)∨(∃ xs,SqT X.K H p xs/\k = !xs.isEmpty)∨∃ kvs,H p=some (.dK kvs)/\k = !kvs.isEmpty:=e
  rcases e' with ⟨xs,hx,e'⟩ | ⟨xs,hx,e'⟩ | ⟨kvs,hx,e'⟩
  ·subst e'
   obtain ⟨its,r,pl,hz⟩:=I.list hx
   have hlen:=r.length
   exact wpAny_truthy_list pl.isList (by simp only [List.size_toArray]; omega) ⟨H,I.tok _,by rw [qs6 r]; exact q⟩
  ·subst e'
   obtain ⟨its,r,pl,hz⟩:=I.tuple hx
   have hlen:=r.length
   exact truthy_tuple pl (by simp only [List.size_toArray]; omega) ⟨H,I.tok _,by rw [qs6 r]; exact q⟩
  ·subst e'
   obtain ⟨hz,hS,vs,r,m⟩:kvs.length<=sizeLine/\(p == sysModules)=false/\∃ vs,KV kvs vs/\s.heap.DictOf (q40 X.prog X.w) p vs:=I.hok p _ hx
   have hlen:kvs.length=vs.length:=Paired.length r
   exact wpAny_truthy_dict hS m (by omega) ⟨H,I.tok _,by rw [qK9 r]; exact q⟩
 | _=>exact (show False from e).elim
theorem z03 (ha:PE X a ta)(he:∀ whole,isTrue a X.env whole=(do let v <- whole; standAt a.pos; holding [v] (truthy v))) :
  PT X a (λσ H Q=>ta σ H λx H'=>∃ k,TruV X.K x H' k/\Q k H'):=by
 intro pins s σ H Q I h
 exact isTrue_plain (thn (ha pins s σ H _ I h) λv s1 ⟨x,H1,I1,r1,q1⟩=>tru_ok pins s1 σ H1 x v Q I1 r1 q1) (he _)
theorem q77:OpR X (binaryOp .Add) (λx y H Q=>∃ i j,x=.str i/\y=.str j/\i.length + j.length<=sizeLine/\Q (.str (i ++ j)) H):=by
 intro pins s σ H x y v u Q I rx ry h
 obtain ⟨i,j,rfl,rfl,hz,q⟩:=h
 obtain ⟨t,rfl⟩:=rx
 obtain ⟨t',rfl⟩:=ry
 exact add_str (λt' tk=>⟨.str (i ++ j),H,I.tok _,⟨_,rfl⟩,q⟩) hz
theorem qI8 {x:V}{us:List Value}(r:Vals [x] us):∃ u,us=[u]/\RelV x u:=by
 cases r with
 | cons r1 r2=>cases r2; exact ⟨_,rfl,r1⟩
theorem vals2 {x y:V}{us:List Value}(r:Vals [x,y] us):∃ u w',us=[u,w']/\RelV x u/\RelV y w':=by
 cases r with
 | cons r1 r2 =>
  cases r2 with
  | cons r3 r4=>cases r4; exact ⟨_,_,rfl,r1,r3⟩
theorem qI1:qj3 X (.builtin "abs") (λxs H Q=>∃ i,xs=[.int i]/\Q (.int (if i < 0 then -i else i)) H):=by
 intro pins s σ H xs us Q I r h
 obtain ⟨i,rfl,q⟩:=h
 obtain ⟨u,rfl,t,rfl⟩:=qI8 r
 exact call_abs_int λu tk=>⟨.int (if i < 0 then -i else i),H,I.tok _,⟨_,rfl⟩,q⟩
theorem qW4 (hc:X.calm=true):qj3 X (.builtin "max") (λxs H Q=>∃ i j,xs=[.int i,.int j]/\Q (.int (if j > i then j else i)) H):=by
 intro pins s σ H xs us Q I r h
 obtain ⟨i,j,rfl,q⟩:=h
 obtain ⟨u,w',rfl,⟨t,rfl⟩,⟨t',rfl⟩⟩:=vals2 r
 refine max_two_ints (I.ok.hd hc) λh' tk k=>⟨_,H,I.kept k,?_,q⟩
 by_cases hj:j > i
 ·rw [if_pos hj,if_pos hj]; exact ⟨_,rfl⟩
 ·rw [if_neg hj,if_neg hj]; exact ⟨_,rfl⟩
theorem qq8:qj3 X (.type "int") (λxs H Q=>(∃ i,xs=[.int i]/\Q (.int i) H)∨∃ k,xs=[.bl k]/\Q (.int (if k then 1 else 0)) H):=by
 intro pins s σ H xs us Q I r h
 rcases h with ⟨i,rfl,q⟩ | ⟨k,rfl,q⟩
 ·obtain ⟨u,rfl,t,rfl⟩:=qI8 r
  exact call_int_int ⟨.int i,H,I,⟨_,rfl⟩,q⟩
 ·obtain ⟨u,rfl,r1⟩:=qI8 r
  cases r1
  exact call_int_bool ⟨.int (if k then 1 else 0),H,I.tok _,⟨_,rfl⟩,q⟩
end
structure ObjM (h:Heap) (x dx C:Addr) (mA:Str->Option Value):Prop where
 obj:h.get? x=some (PySem.W.instObj C dx)
 ns:h.Ns1 dx mA
 ne:dx≠x
theorem qS8 {h:Heap}{dx:Addr}{mA:Str->Option Value}(n:h.Ns1 dx mA):∃ od,h.get? dx=some od/\∀ name,PySem.W.lookIn name od=some (mA name):=by
 obtain ⟨o,es,ep,ho,hd,hk,_,hm⟩:=n
 refine ⟨o,ho,λname=>?_⟩
 have e:=hm name
 unfold nsFind findBy at e
 rw [<- Array.find?_toList] at e
 unfold PySem.W.lookIn
 rw [hd]
 dsimp only
 split
 ·rename_i y q
  rw [q] at e
  exact congrArg some e
 ·rename_i q
  rw [q] at e
  have a:es.toList.any (·.refKey)=false:=by
   rw [List.any_eq_false]
   intro y hy
   obtain ⟨z,t,hkey⟩:=hk y (Array.mem_toList_iff.mp hy)
   simp [DictEntry.refKey,hkey]
  have a':¬ es.toList.any (·.refKey)=true:=by rw [a]; exact Bool.false_ne_true
  rw [if_neg a']
  exact congrArg some e
theorem ObjM.look {h:Heap}{x dx C:Addr}{mA:Str->Option Value}(I:ObjM h x dx C mA):∃ od,PySem.W.InstAt h x (PySem.W.instObj C dx) C (some od)/\∀ name,PySem.W.lookIn name od=some (mA name) :=
 let ⟨od,ho,hl⟩:=qS8 I.ns
 ⟨od,⟨I.obj,rfl,rfl,ho⟩,hl⟩
section
variable {prog:Program}{w:World}{A:Around}{E:Value->Shared->Prop}{s:Shared}{K:PySem.W.Frag}{x dx C f:Addr}{mA:Str->Option Value}{name:Str}{v:Value}
theorem get_map {expr:Bool}{Q:Value->Shared->Prop}(X:K.In s.heap)(I:ObjM s.heap x dx C mA)(hg:PySem.W.plainGet K C name=true)(hh:PySem.W.hasDictIn K C=true)
  (ha:PySem.W.findIn K (.ref C) name=some none) (hv:mA name=some v) (hv':PySem.W.handedIn v=true) (h:Q v { s with toks:=s.toks + 1 }) :
  wpAny (model prog w) A (getAttr (.ref x) name expr) Q E s:=by
 obtain ⟨od,J,hl⟩:=I.look
 exact PySem.W.get_value X J (PySem.W.plainGet_of hg).1 (PySem.W.findObj_own hh ha rfl (by rw [hl,hv])) hv' h
theorem z47 {pl:Sem Bool}{Q:Value×List Value->Shared->Prop}(X:K.In s.heap)(I:ObjM s.heap x dx C mA)(hg:PySem.W.plainGet K C name=true)
  (hf:PySem.W.findIn K (.ref C) name=some (some (.ref f))) (ht:PySem.W.isFn K (.ref f)=true) (hv:mA name=none) (h:Q (.ref f,[.ref x]) s) :
  wpAny (model prog w) A (getMethod (.ref x) name pl) Q E s:=by
 obtain ⟨od,J,hl⟩:=I.look
 exact PySem.W.method_fn X J (PySem.W.plainGet_of hg).1 (PySem.W.plainGet_of hg).2 hf (beq_iff_eq.mp ht) (by show (PySem.W.lookIn name od).map (·.isSome)=some false; rw [hl,hv]; rfl) h
theorem set_map {ns:List Str}{Q:Unit->Shared->Prop}(X:K.In s.heap)(I:ObjM s.heap x dx C mA)
  (hs:PySem.W.findIn K (.ref C) "__setattr__" = some (some (.builtin "object.__setattr__"))) (hp:PySem.W.plainOver K C=true) (ht:PySem.W.takerIn K C name=some none) (hh:PySem.W.hasDictIn K C=true)
  (hw:PySem.Within mA ns) (hsz:ns.length<=sizeLine)
  (h:∀ h',ObjM h' x dx C (λy=>if y=name then some v else mA y)->Heap.SameBut dx s.heap h'->Q () { s with heap:=h',toks:=s.toks + 2 }) :
  wpAny (model prog w) A (setAttr (.ref x) name v) Q E s:=by
 obtain ⟨od,J,hl⟩:=I.look
 refine PySem.W.set_plain X J hs (PySem.W.osa_open (s:={ s with toks:=s.toks + 1 }) (r:=none) X J hp ht λb=>?_)
 obtain ⟨cd,hc,hd'⟩:=PySem.W.any_some hh
 have hx:s.heap.get? x=some ⟨.ref C,some dx,.plain,#[]⟩:=I.obj
 refine wpAny_bind (wpAny_pure (wpAny_bind (wpAny_bind (wpAny_loadPart hx (wpAny_bind (PySem.W.Looks.here (s:={ s with toks:=s.toks + 1 }) (PySem.W.looks_clsIn X hc) ?_))))))
 rw [hd']
 refine wpAny_pure (a:=some dx) (wpAny_bind (wpAny_pure (wpAny_bind ?_)))
 refine wpAny_nsSet1 (s:={ s with toks:=s.toks + 1 }) I.ns λh' hn2 hs2=>?_
 obtain ⟨oD,esD,epD,hoD,hdD,hcD⟩:=hn2.count (PySem.Within.cons name v hw)
 refine wpAny_bind (wpAny_lookBehind hoD (by rw [hdD]; exact pastItsLine_dict (Nat.le_trans hcD (by rw [List.length_cons]; omega))) ?_)
 exact wpAny_pure (h _ ⟨(hs2.2 _ (Ne.symm I.ne)).trans I.obj,hn2,I.ne⟩ hs2)
theorem z40 {R:Result->Shared->Prop}{vs:List Value}{kw:List (Str×Value)}(X:K.In s.heap)(hm:PySem.W.makesIn K C=true)
  (hi:PySem.W.findIn K (.ref C) "__init__" = some (some (.ref f))) (hf:PySem.W.typeIn K (.ref f)=some (.type "function"))
  (h:codeAny (model prog w) (A.under (.builtin "type.__call__" ⟨.ref C :: vs,kw⟩)) (.call (.ref f) ⟨.ref (s.heap.objs.size + 1) :: vs,kw⟩) (PySem.W.InitBack (s.heap.objs.size + 1) R)
   { s with heap:=(s.heap.push PySem.W.emptyDict).push (PySem.W.instObj C s.heap.objs.size) }) :
  codeAny (model prog w) A (.call (.ref C) ⟨vs,kw⟩) R s:=by
 obtain ⟨hh,g,d,t,os⟩:=s
 exact PySem.W.make_core (PySem.W.makes_of X hm) (PySem.W.looks_findIn X hi) (λself=>PySem.W.bind_fn X self hf) (.inl rfl) h
end
def qm1 (f:Str)(v:V):List (Str×V)->List (Str×V)
 | []=>[(f,v)]
 | (g,x) :: r=>if g=f then (g,v) :: r else (g,x) :: qm1 f v r
theorem qp7 (f g:Str)(v:V):∀ fs:List (Str×V),(qm1 f v fs).lookup g=if g=f then some v else fs.lookup g
 | []=>by
  show List.lookup g [(f,v)]=_
  by_cases h:g=f
  ·have hb:(g == f)=true:=beq_iff_eq.mpr h
   simp only [List.lookup,hb,if_pos h]
  ·have hb:(g == f)=false:=beq_eq_false_iff_ne.mpr h
   simp only [List.lookup,hb,if_neg h]
 | (k,x) :: r=>by
  have ih:=qp7 f g v r
  rw [show qm1 f v ((k,x) :: r)=(if k=f then (k,v) :: r else (k,x) :: qm1 f v r) from rfl]
  by_cases hk:k=f
  ·rw [if_pos hk]
   by_cases h:g=k
   ·have hb:(g == k)=true:=beq_iff_eq.mpr h
    simp only [List.lookup,hb,if_pos (h.trans hk)]
   ·have hb:(g == k)=false:=beq_eq_false_iff_ne.mpr h
    simp only [List.lookup,hb,if_neg (λe:g=f=>h (e.trans hk.symm))]
  ·rw [if_neg hk]
   by_cases h:g=k
   ·have hb:(g == k)=true:=beq_iff_eq.mpr h
    simp only [List.lookup,hb,if_neg (λe:g=f=>hk (h.symm.trans e))]
   ·have hb:(g == k)=false:=beq_eq_false_iff_ne.mpr h
    simp only [List.lookup,hb]
    exact ih
theorem qq0 (f:Str)(v:V):∀ fs:List (Str×V),f∈(qm1 f v fs).map (·.1)/\∀ g,g∈fs.map (·.1)->g∈(qm1 f v fs).map (·.1)
 | []=>⟨by simp [qm1],λg h=>by simp at h⟩
 | (k,x) :: r=>by
  obtain ⟨i1,i2⟩:=qq0 f v r
  rw [show qm1 f v ((k,x) :: r)=(if k=f then (k,v) :: r else (k,x) :: qm1 f v r) from rfl]
  by_cases hk:k=f
  ·rw [if_pos hk]
   subst hk
   exact ⟨by simp,λg h=>by simpa using h⟩
  ·rw [if_neg hk]
   refine ⟨?_,λg h=>?_⟩
   ·rw [List.map_cons]
    exact List.mem_cons_of_mem _ i1
   ·rw [List.map_cons] at h ⊢
    rcases List.mem_cons.mp h with e | e
    ·exact List.mem_cons.mpr (.inl e)
    ·exact List.mem_cons_of_mem _ (i2 g e)
theorem qp8 (f:Str)(v:V):∀ fs:List (Str×V),(qm1 f v fs).length<=fs.length + 1
 | []=>by simp [qm1]
 | (k,x) :: r=>by
  have ih:=qp8 f v r
  rw [show qm1 f v ((k,x) :: r)=(if k=f then (k,v) :: r else (k,x) :: qm1 f v r) from rfl]
  by_cases hk:k=f
  ·rw [if_pos hk,List.length_cons,List.length_cons]; omega
  ·rw [if_neg hk,List.length_cons,List.length_cons]; omega
theorem RelO.some_of {v:V}{o:Option Value}(r:RelO (some v) o):∃ u,o=some u/\RelV v u:=by
 cases o with
 | none=>exact (show False from r).elim
 | some u=>exact ⟨u,rfl,r⟩
theorem RelO.none_of {o:Option Value}(r:RelO none o):o=none:=by
 cases o with
 | none=>rfl
 | some u=>exact (show False from r).elim
theorem qA6 {v:V}{u:Value}(r:RelV v u):PySem.W.handedIn u=true:=by
 cases v with
 | non=>cases (show u=Value.none from r); rfl
 | bl b=>cases (show u=Value.bool b from r); rfl
 | int i=>obtain ⟨t,e⟩:=(show ∃ t,u=Value.int i t from r); cases e; rfl
 | str x=>obtain ⟨t,e⟩:=(show ∃ t,u=Value.str x t from r); cases e; rfl
 | byt b=>obtain ⟨t,e⟩:=(show ∃ t,u=Value.bytes b t from r); cases e; rfl
 | flt b=>obtain ⟨t,e⟩:=(show ∃ t,u=Value.float b t from r); cases e; rfl
 | ref a=>cases (show u=Value.ref a from r); rfl
 | ty n=>cases (show u=Value.type n from r); rfl
section
variable {P:Program}{w:World}{H H':Hp}{h h':Heap}{a C dx:Addr}{fs fs':List (Str×V)}
theorem qC9 (hok:HOk P w H h)(e:H a=some (.ins C dx fs)):∃ mA,ObjM h a dx C mA/\(∀ f,RelO (fs.lookup f) (mA f))/\PySem.Within mA (fs.map (·.1))/\fs.length<=1000/\H dx=some (.own a):=by
 obtain ⟨d,z,ne,ob,mA,n,r,q⟩:=(show ObjOk P w H h a (.ins C dx fs) from hok a _ e)
 exact ⟨mA,⟨ob,n,ne⟩,r,q,z,d⟩
end
structure Cls (K:PySem.W.Frag) (C:Addr):Prop where
 pg:PySem.W.plainGet K C Str.empty=true
 hd:PySem.W.hasDictIn K C=true
 po:PySem.W.plainOver K C=true
 sa:PySem.W.findIn K (.ref C) "__setattr__" = some (some (.builtin "object.__setattr__"))
theorem Cls.get {K:PySem.W.Frag}{C:Addr}(c:Cls K C)(f:Str):PySem.W.plainGet K C f=true:=c.pg
def NoAttr (K:PySem.W.Frag)(C:Addr)(f:Str):Prop:=PySem.W.findIn K (.ref C) f=some none
theorem NoAttr.taker {K:PySem.W.Frag}{C:Addr}{f:Str}(n:NoAttr K C f):PySem.W.takerIn K C f=some none:=by
 unfold PySem.W.takerIn
 rw [show PySem.W.findIn K (.ref C) f=some none from n]
 rfl
structure Con (K:PySem.W.Frag) (C:Addr) (f:Str) (v:V) (u:Value):Prop where
 at_:PySem.W.findIn K (.ref C) f=some (some u)
 rel:RelV v u
 get:PySem.W.specialIn K u "__get__" = some none
 cp:PySem.W.copiedNames.contains f=false
structure Meth (K:PySem.W.Frag) (C:Addr) (m:Str) (f:Addr):Prop where
 at_:PySem.W.findIn K (.ref C) m=some (some (.ref f))
 fn:PySem.W.isFn K (.ref f)=true
 kp:PySem.W.keepIn K (.ref f)=true
section
variable {X:Cx}{pins:List (Addr×Obj)}{σ:St}{H:Hp}{s:Shared}{a C dx:Addr}{fs:List (Str×V)}{f:Str}{v:V}{A:Around}{E:Value->Shared->Prop}
theorem qL1 {b:Bool}{Q:Value->Shared->Prop}(I:Inv X pins σ H s)(e:H a=some (.ins C dx fs))(c:Cls X.K C)(n:NoAttr X.K C f)(l:fs.lookup f=some v)
  (h:∀ u s',Inv X pins σ H s'->RelV v u->Q u s'):wpAny (model X.prog X.w) A (getAttr (.ref a) f b) Q E s:=by
 obtain ⟨mA,O,r,_,_,_⟩:=qC9 I.hok e
 obtain ⟨u,hu,ru⟩:=RelO.some_of (v:=v) (o:=mA f) (by rw [<- l]; exact r f)
 exact get_map I.kIn O (c.get f) c.hd n hu (qA6 ru) (h u _ (I.tok _) ru)
theorem qs7 {m:Str}{g:Addr}{pl:Sem Bool}{Q:Value×List Value->Shared->Prop}(I:Inv X pins σ H s)(e:H a=some (.ins C dx fs))(c:Cls X.K C)(k:Meth X.K C m g)(l:fs.lookup m=none)
  (h:Q (.ref g,[.ref a]) s):wpAny (model X.prog X.w) A (getMethod (.ref a) m pl) Q E s:=by
 obtain ⟨mA,O,r,_,_,_⟩:=qC9 I.hok e
 have hn:mA m=none:=RelO.none_of (by rw [<- l]; exact r m)
 exact z47 I.kIn O (c.get m) k.at_ k.fn hn h
theorem qJ4 {y:V}{u:Value}{Q:Unit->Shared->Prop}(I:Inv X pins σ H s)(e:H a=some (.ins C dx fs))(c:Cls X.K C)(n:NoAttr X.K C f)(hl:fs.length < 1000)(ry:RelV y u)
  (h:∀ s',Inv X pins σ (upd H a (.ins C dx (qm1 f y fs))) s'->Q () s'):wpAny (model X.prog X.w) A (setAttr (.ref a) f u) Q E s:=by
 obtain ⟨mA,O,r,wi,_,ho⟩:=qC9 I.hok e
 have hz:(fs.map (·.1)).length<=sizeLine:=by rw [List.length_map,sizeLine_eq]; omega
 refine set_map I.kIn O c.sa c.po n.taker c.hd wi hz λh' O' sb=>h _ ?_
 have hd:∃ o,h'.get? dx=some o:=let ⟨o,_,_,e',_⟩:=O'.ns; ⟨o,e'⟩
 refine I.write (x:=a) (e:=dx) (by rw [e]; exact True.intro) (.inr ho) (λb q hb z=>(sb.2 b hb).trans z) hd ?_
 refine ⟨by rw [q07 O.ne]; exact ho,?_,O.ne,O'.obj,_,O'.ns,λg=>?_,λg hg=>?_⟩
 ·have:=qp8 f y fs; omega
 ·show RelO ((qm1 f y fs).lookup g) (if g=f then some u else mA g)
  rw [qp7]
  by_cases q:g=f
  ·rw [if_pos q,if_pos q]; exact ry
  ·rw [if_neg q,if_neg q]; exact r g
 ·by_cases q:g=f
  ·rw [q]; exact (qq0 f y fs).1
  ·refine (qq0 f y fs).2 g (wi g λz=>hg ?_)
   show (if g=f then some u else mA g)=none
   rw [if_neg q]; exact z
theorem Inv.made (I:Inv X pins σ H s):Inv X pins σ (upd (upd H s.heap.objs.size (.own (s.heap.objs.size + 1))) (s.heap.objs.size + 1) (.ins C s.heap.objs.size []))
  { s with heap:=(s.heap.push PySem.W.emptyDict).push (PySem.W.instObj C s.heap.objs.size) }:=by
 have e1:(s.heap.push PySem.W.emptyDict).get? s.heap.objs.size=some PySem.W.emptyDict:=Heap.get?_push_size s.heap rfl
 have e2:((s.heap.push PySem.W.emptyDict).push (PySem.W.instObj C s.heap.objs.size)).get? (s.heap.objs.size + 1)=some (PySem.W.instObj C s.heap.objs.size):=by
  have:=Heap.get?_push_size (s.heap.push PySem.W.emptyDict) (o:=PySem.W.instObj C s.heap.objs.size) rfl
  rwa [Heap.size_push] at this
 have e3:(s.heap.push PySem.W.emptyDict).Ns s.heap.objs.size (λ_=>none):=⟨PySem.W.emptyDict,#[],_,e1,rfl,(λe he=>absurd he (by simp)),λ_=>rfl⟩
 have I1:=I.laid (a:=s.heap.objs.size) (o:=.own (s.heap.objs.size + 1)) (h':=s.heap.push PySem.W.emptyDict) (t':=s.toks) (λb u q=>Heap.get?_push_of_some _ q) (Nat.le_refl _) ⟨_,e1⟩
 refine I1.laid (a:=s.heap.objs.size + 1) (o:=.ins C s.heap.objs.size []) (t':=s.toks) (λb u q=>Heap.get?_push_of_some _ q) (Nat.le_of_eq (Heap.size_push _ _)) ?_
 have ne:s.heap.objs.size≠s.heap.objs.size + 1:=Nat.ne_of_lt (Nat.lt_succ_self _)
 refine ⟨by rw [q07 ne,q01],Nat.zero_le _,ne,e2,λ_=>none,(Heap.Ns1.of_empty e3).at λo q=>Heap.get?_push_of_some _ q,λ_=>True.intro,λy hy=>absurd rfl hy⟩
theorem qW8 {prog:Program}{w:World}{env:Env}{e:Expr}{f:Str}{pos:Pos}{s:Shared}{Q:Value->Shared->Prop}(hb:attributeBase e f env (eval e env)=eval e env)
  (h:wpAny (model prog w) A (eval e env) (λo s₁=>wpAny (model prog w) A (getAttr o f true) Q E s₁) E s):wpAny (model prog w) A (eval (.Attribute e f pos) env) Q E s :=
 Attribute_any_ h (by rw [arm_eval_Attribute,hb])
end
def tFld (K:PySem.W.Frag)(ta:TE)(f:Str):TE:=λσ H Q=>ta σ H λx H1=>∃ a C dx fs v,x=.ref a/\H1 a=some (.ins C dx fs)/\Cls K C/\NoAttr K C f/\fs.lookup f=some v/\Q v H1
def sFld (K:PySem.W.Frag)(ta tv:TE)(f:Str):TS:=λD σ H=>tv σ H λy H1=>ta σ H1 λx H2=>∃ a C dx fs,x=.ref a/\H2 a=some (.ins C dx fs)/\Cls K C/\NoAttr K C f/\fs.length < 1000 /\
 D.nx σ (upd H2 a (.ins C dx (qm1 f y fs)))
section
variable {X:Cx}{o e value:Expr}{f:Str}{pos pos' tpos:Pos}{ta tv:TE}
theorem qb3 (he:PE X e ta)(hb:attributeBase e f X.env (eval e X.env)=eval e X.env):PE X (.Attribute e f pos) (tFld X.K ta f):=by
 intro pins s σ H Q I h
 refine qW8 hb (thn (he pins s σ H _ I h) λu s1 ⟨x,H1,I1,rx,a,C,dx,fs,v,ex,ea,c,n,l,q⟩=>?_)
 subst ex
 obtain rfl:u=Value.ref a:=rx
 exact qL1 I1 ea c n l λu' s2 I2 ru=>⟨v,H1,I2,ru,q⟩
theorem qP7 (ha:PE X o ta)(hv:PE X value tv)(hs:swapsWith value (some (.Attribute o f pos')) pos.line X.env=pure false):PS X (.Assign [.Attribute o f pos'] value pos) (sFld X.K ta tv f):=by
 intro pins s σ H D I h
 refine plainObj_wpAny_Assign_Attribute (thn (hv pins s σ H _ I h) λu s1 ⟨y,H1,I1,ry,q⟩=>thn (ha pins s1 σ H1 _ I1 q) λov s2 ⟨x,H2,I2,rx,a,C,dx,fs,ex,ea,c,n,l,q2⟩=>?_) hs
 subst ex
 obtain rfl:ov=Value.ref a:=rx
 exact qJ4 I2 ea c n l ry λs3 I3=>⟨σ,_,I3,q2⟩
end
section
variable {X:Cx}{pins:List (Addr×Obj)}{σ:St}{H:Hp}{s:Shared}{A:Around}{E:Value->Shared->Prop}{Q:Value->Shared->Prop}{c:Value}{b:Bool}
inductive TyOf (K:PySem.W.Frag) (H:Hp):V->Value->Prop where
 | non:TyOf K H .non (.type "NoneType")
 | bl (x:Bool):TyOf K H (.bl x) (.type "bool")
 | int (i:Int):TyOf K H (.int i) (.type "int")
 | str (x:Str):TyOf K H (.str x) (.type "str")
 | flt (x:UInt64):TyOf K H (.flt x) (.type "float")
 | lst {a:Addr} {xs:List V} (e:H a=some (.lst xs)):TyOf K H (.ref a) (.type "list")
 | frz {a:Addr} {o:Obj} {xs:List V} (e:H a=some (.frz o (.lst xs))):TyOf K H (.ref a) (.type "list")
 | tup {a:Addr} {xs:List V} (e:H a=some (.tup xs)):TyOf K H (.ref a) (.type "tuple")
 | dK {a:Addr} {kvs:List (Key×V)} (e:H a=some (.dK kvs)):TyOf K H (.ref a) (.type "dict")
 | dT {a:Addr} {kvs:List (List Key×V)} (e:H a=some (.dT kvs)):TyOf K H (.ref a) (.type "dict")
 | ins {a C dx:Addr} {fs:List (Str×V)} (e:H a=some (.ins C dx fs)) (cl:Cls K C) (ha:PySem.W.findIn K (.ref C) "__class__" = some (some (.builtin "object.__class__")))
   (hn:PySem.W.specialIn K (.builtin "object.__class__") "__get__" = some (some (.builtin "getset_descriptor.__get__"))) (htk:PySem.W.takesIn K (.builtin "object.__class__")=some true)
   (hm:PySem.W.mroIn K C (.type "object")=some true):TyOf K H (.ref a) (.ref C)
end
structure Room (k:Nat) (A:Around):Prop where
 hd:A.handled=none
 dp:A.depth + 3 * k + 5 < recursionLimit
 un:A.units + 16 * k + 200 < cLine
theorem Room.mono {j k:Nat}{A:Around}(r:Room k A)(h:j<=k):Room j A:=⟨r.hd,by have:=r.dp; omega,by have:=r.un; omega⟩
theorem Room.deeper {k:Nat}{A:Around}(r:Room (k + 1) A)(env:Env):Room k (A.deeper env) :=
 ⟨r.hd,by have:=r.dp; show A.depth + 1 + 3 * k + 5 < _; omega,by have:=r.un; show A.units + 3 + 16 * k + 200 < _; omega⟩
theorem qK5 {A:Around}{C:Addr}{us:List Value}{kw:List (Str×Value)}:(A.under (.builtin "type.__call__" ⟨.ref C :: us,kw⟩)).depth=A.depth + 1:=by
 first | rfl | simp [Around.under,Code.weight,Code.isCreation,Code.isGuard,Code.isCaller,Code.frames,Code.isFrame,guardIds]
theorem qK4 {A:Around}{C:Addr}{us:List Value}{kw:List (Str×Value)}:(A.under (.builtin "type.__call__" ⟨.ref C :: us,kw⟩)).units=A.units + 1:=by
 first | rfl | simp [Around.under,Code.cUnits,Code.frames,Code.isFrame]
theorem Room.make {k:Nat}{A:Around}(r:Room (k + 1) A)(C:Addr)(us:List Value)(kw:List (Str×Value)):Room k (A.under (.builtin "type.__call__" ⟨.ref C :: us,kw⟩)) :=
 ⟨r.hd,by have:=r.dp; rw [qK5]; omega,by have:=r.un; rw [qK4]; omega⟩
theorem Room.depth {k:Nat}{A:Around}(r:Room k A):A.depth < recursionLimit:=by have:=r.dp; omega
theorem Room.units {k:Nat}{A:Around}(r:Room k A):A.units + 64 < cLine:=by have:=r.un; omega
theorem Room.units0 {k:Nat}{A:Around}(r:Room k A):A.units < cLine:=by have:=r.un; omega
def qX6:TA:=λ_ H Q=>Q [] H
def qh4 (ta:TE)(tr:TA):TA:=λσ H Q=>ta σ H λx H1=>tr σ H1 λxs H2=>Q (x :: xs) H2
section
variable {X:Cx}{e:Expr}{es:List Expr}{te:TE}{t:TA}{pos:Pos}
theorem q03:PA X [] qX6:=λ_ _ _ _ H Q I h=>Calls.spliced_nil ⟨[],H,I,.nil,h⟩
theorem q00 (ha:PE X e te)(hr:PA X es t)(hs:starEach (e :: es) X.env=(false,eval e X.env) :: starEach es X.env:=by rfl):PA X (e :: es) (qh4 te t):=by
 intro pos pins s σ H Q I h
 rw [hs]
 show wpAny _ _ (spliced ((false,eval e X.env) :: backTo pos (starEach es X.env))) _ _ s
 refine Calls.spliced_cons (thn (ha pins s σ H _ I h) λu s1 ⟨x,H1,I1,r1,q1⟩=>?_)
 exact thn (hr pos pins s1 σ H1 _ I1 q1) λus s2 ⟨xs,H2,I2,r2,q2⟩=>⟨x :: xs,H2,I2,.cons r1 r2,q2⟩
def tTup (t:TA):TE:=λσ H Q=>t σ H λxs H1=>xs.length<=sizeLine/\∀ p,H1 p=none->Q (.ref p) (upd H1 p (.tup xs))
def tLst (t:TA):TE:=λσ H Q=>t σ H λxs H1=>xs.length<=sizeLine/\∀ p,H1 p=none->Q (.ref p) (upd H1 p (.lst xs))
theorem q54 {x1}(h:PA X es t):PE X (.Tuple es x1 pos) (tTup t):=by
 intro pins s σ H Q I hq
 refine wpAny_Tuple_spliced (thn (h pos pins s σ H _ I hq) λus s1 ⟨xs,H1,I1,r,z,q⟩=>⟨by rw [<- r.length]; exact z,?_⟩)
 have hf:H1 s1.heap.objs.size=none:=I1.hok.fresh (Nat.le_refl _)
 refine ⟨.ref s1.heap.objs.size,upd H1 s1.heap.objs.size (.tup xs),I1.laid (t':=s1.toks) (λb u e=>Heap.get?_push_of_some _ e) (Nat.le_refl _) ?_,rfl,q _ hf⟩
 exact ⟨z,us,r,⟨_,Heap.get?_push_size _ rfl,rfl,_,rfl⟩⟩
theorem q42 (h:PA X es t):PE X (.List es pos) (tLst t):=by
 intro pins s σ H Q I hq
 refine wpAny_List_spliced (thn (h pos pins s σ H _ I hq) λus s1 ⟨xs,H1,I1,r,z,q⟩=>⟨by rw [<- r.length]; exact z,?_⟩)
 have hf:H1 s1.heap.objs.size=none:=I1.hok.fresh (Nat.le_refl _)
 refine ⟨.ref s1.heap.objs.size,upd H1 s1.heap.objs.size (.lst xs),I1.laid (t':=s1.toks) (λb u e=>Heap.get?_push_of_some _ e) (Nat.le_refl _) ?_,rfl,q _ hf⟩
 exact ⟨z,us,0,r,Heap.get?_push_size _ rfl⟩
end
abbrev Sp:=List V->Hp->VK->XK->Prop
abbrev CXT:=List Env->Hp->Shared->XK->Value->Shared->Prop
structure Env0 (P:Program) (w:World) (K:PySem.W.Frag) (mg:Str->Option Value) (base:Heap) (A:Around) (outer:List Env) (s:Shared) (H:Hp):Prop where
 frames:A.frames=some outer
 mod:Mod K mg base
 bs:∀ b o,base.get? b=some o->s.heap.get? b=some o/\H b=none
 bsz:base.objs.size<=s.heap.objs.size
 funs:s.heap.FunFrames base outer
 frf:∀ b∈frs outer,H b=none
 hok:HOk P w H s.heap
 bare:AllBare s.gens
def CE (outer:List Env)(P:Program)(w:World)(H:Hp)(s:Shared)(Q:VK)(u:Value)(s':Shared):Prop :=
 ∃ v H',s'.os=s.os/\AllBare s'.gens/\Un (frs outer) [] H H' s.heap s'.heap/\HOk P w H' s'.heap/\RelV v u/\Q v H'
def CR (CX:CXT)(outer:List Env)(P:Program)(w:World)(H:Hp)(s:Shared)(Q:VK)(E:XK)(r:Result)(s':Shared):Prop :=
 match r with
 | .ok (.ret u)=>CE outer P w H s Q u s'
 | .ok _=>False
 | .error e=>CX outer H s E e s'
structure FnOk (P:Program) (w:World) (K:PySem.W.Frag) (mg:Str->Option Value) (base:Heap) (CX:CXT) (k:Nat) (f:Addr) (fd:FuncData) (ps:List Str) (sp:Sp):Prop where
 len:∀ vs H Q E,sp vs H Q E->vs.length=ps.length
 run:∀(A:Around) (outer:List Env) (s:Shared) (H:Hp) (args:Args) (us:List Value) (vs:List V) (Q:VK) (E:XK),Room k A->Env0 P w K mg base A outer s H->BindsTo s fd args (ps.zip us)->Vals vs us->sp vs H Q E ->
  codeAny (model P w) A (.call (.ref f) args) (CR CX outer P w H s Q E) s
theorem Env0.make {P:Program}{w:World}{K:PySem.W.Frag}{mg:Str->Option Value}{base:Heap}{A:Around}{outer:List Env}{s:Shared}{H:Hp}(e:Env0 P w K mg base A outer s H)(C:Addr)(us:List Value)(kw:List (Str×Value)) :
  Env0 P w K mg base (A.under (.builtin "type.__call__" ⟨.ref C :: us,kw⟩)) outer s H:=⟨by first | exact e.frames | (simpa [Around.under,Code.envs,Code.isFrame,pushEnvs] using e.frames),e.mod,e.bs,e.bsz,e.funs,e.frf,e.hok,e.bare⟩
section
variable {X:Cx}{pins:List (Addr×Obj)}{σ:St}{H:Hp}{s s':Shared}
theorem Inv.env0 (I:Inv X pins σ H s):Env0 X.prog X.w X.K X.mg X.base X.A X.stack s H :=
 ⟨I.ok.frames,I.ok.mod,I.bs,Nat.le_trans I.ok.bsz I.sz,I.stack,I.stkFree,I.hok,I.bare⟩
theorem Inv.after {Q:VK}{u:Value}(I:Inv X pins σ H s)(h:CE X.stack X.prog X.w H s Q u s'):EP X pins σ Q u s':=by
 obtain ⟨v,H',os,bare,un,hok,r,q⟩:=h
 obtain ⟨hh,g,d,t,os'⟩:=s'
 obtain rfl:os'=s.os:=os
 exact ⟨v,H',I.call (h':=hh) (g':=g) (d':=d) (t':=t) (ch:=[]) un hok bare (λb z=>absurd z (by simp)),r,q⟩
end
def qJ3 (sp:Sp)(dvs:List V)(E:XK)(t:TA):TE:=λσ H Q=>t σ H λvs H1=>sp (vs ++ dvs) H1 Q E
def tMeth (C:Addr)(m:Str)(sp:Sp)(dvs:List V)(E:XK)(ta:TE)(t:TA):TE:=λσ H Q=>ta σ H λx H1=>∃ a dx fs,x=.ref a/\H1 a=some (.ins C dx fs)/\fs.lookup m=none /\
 t σ H1 λvs H2=>sp (x :: (vs ++ dvs)) H2 Q E
def tMake (C:Addr)(sp:Sp)(dvs:List V)(E:XK)(t:TA):TE:=λσ H Q=>t σ H λvs H1=>∀ x dx,H1 x=none->H1 dx=none->dx≠x ->
 sp (.ref x :: (vs ++ dvs)) (upd (upd H1 dx (.own x)) x (.ins C dx [])) (λv H2=>v=.non/\Q (.ref x) H2) E
def Binds (K:PySem.W.Frag)(fd:FuncData)(ps:List Str)(ds:List Value):Prop :=
 ∀(s:Shared) (us:List Value),K.In s.heap->(us ++ ds).length=ps.length->BindsTo s fd ⟨us,[]⟩ (ps.zip (us ++ ds))
theorem Binds.all {K:PySem.W.Frag}{fd:FuncData}{ps:List Str}(h:∀ us:List Value,us.length=ps.length->bindArgs fd ⟨us,[]⟩=pure (ps.zip us)):Binds K fd ps []:=λs us _ hl=>by
 rw [List.append_nil] at hl ⊢
 exact .of_eq (h us hl)
def q73 (CX:CXT)(X:Cx)(E:XK):Prop:=∀(pins:List (Addr×Obj)) (σ:St) (H:Hp) (s:Shared) (e:Value) (s':Shared),Inv X pins σ H s->CX X.stack H s E e s'->X.xe e s'
section
variable {X:Cx}{CX:CXT}{k:Nat}{f C:Addr}{fd:FuncData}{ps:List Str}{sp:Sp}{dvs:List V}{ds:List Value}{E:XK}{x m:Str}{p pos apos:Pos}{e o:Expr}{es:List Expr}{ta:TE}{t:TA}
theorem qz2 {pins:List (Addr×Obj)}{σ:St}{H:Hp}{s:Shared}{Q:VK}{us:List Value}{vs:List V}(F:FnOk X.prog X.w X.K X.mg X.base CX k f fd ps sp)(hr:Room k X.A)(hb:Binds X.K fd ps ds)(hd:Vals dvs ds)(hx:q73 CX X E)
  (I:Inv X pins σ H s) (r:Vals vs us) (h:sp (vs ++ dvs) H Q E):wpAny (model X.prog X.w) X.A (call (.ref f) us) (EP X pins σ Q) X.xe s:=by
 have r2:Vals (vs ++ dvs) (us ++ ds):=r.append hd
 have hl:(us ++ ds).length=ps.length:=by rw [<- r2.length]; exact F.len _ _ _ _ h
 refine wpAny_call (codeAny_mono (F.run X.A X.stack s H ⟨us,[]⟩ (us ++ ds) (vs ++ dvs) Q E hr I.env0 (hb s us I.kIn hl) r2 h) λr s' hq=>?_)
 cases r with
 | error e=>exact hx pins σ H s e s' I hq
 | ok fl =>
  cases fl with
  | ret u=>exact I.after hq
  | next=>exact False.elim hq
  | brk=>exact False.elim hq
  | cont=>exact False.elim hq
theorem pe_call (F:FnOk X.prog X.w X.K X.mg X.base CX k f fd ps sp)(hr:Room k X.A)(hg:Gl X x)(hm:X.mg x=some (.ref f))(hk:PySem.W.keepIn X.K (.ref f)=true)(hb:Binds X.K fd ps ds)(hd:Vals dvs ds)(hx:q73 CX X E)
  (ha:PA X (e :: es) t) (hdb:(x == ("__debug__" : Str))=false:=by decide) (he:starEach (e :: es) X.env=(false,eval e X.env) :: starEach es X.env:=by rfl) (hpl:(backTo pos (starEach es X.env)).any (·.1)=false:=by rfl) :
  PE X (.Call (.Name x p) (e :: es) [] pos) (qJ3 sp dvs E t):=by
 intro pins s σ H Q I h
 refine wpAny_Call_Name_kw (qh2 I hg hm ?_ hdb)
 refine PySem.W.callWith_K (h₀:=X.base) I.ok.mod.kin hk (thn (ha pos pins s σ H _ I h) λus s1 ⟨vs,H1,I1,r,q⟩=>⟨I1.kIn,?_⟩) he hpl
 exact qz2 F hr hb hd hx I1 r q
theorem q87 {pl:Sem Bool}(he:PE X o ta)(c:Cls X.K C)(hm:Meth X.K C m f)(F:FnOk X.prog X.w X.K X.mg X.base CX k f fd ps sp)(hr:Room k X.A)(hb:Binds X.K fd ps ds)(hd:Vals dvs ds)(hx:q73 CX X E)(ha:PA X (e :: es) t)
  (hst:starEach (e :: es) X.env=(false,eval e X.env) :: starEach es X.env:=by rfl) (hpl:(backTo pos (starEach es X.env)).any (·.1)=false:=by rfl)
  (ht:eval (.Call (.Attribute o m apos) (e :: es) [] pos) X.env=(do
   let ov <- eval o X.env
   standAt apos.atName
   let (f,first) <- holding [ov] (getMethod ov m pl)
   callWith pos f first (backTo pos (starEach (e :: es) X.env)) (backToKw pos (keywordEach [] X.env))):=by rfl) :
  PE X (.Call (.Attribute o m apos) (e :: es) [] pos) (tMeth C m sp dvs E ta t):=by
 intro pins s σ H Q I h
 refine PySem.W.methodCall_KW (pl:=pl) (thn (he pins s σ H _ I h) λu s1 ⟨x,H1,I1,rx,a,dx,fs,ex,ea,l,q⟩=>?_) ht
 subst ex
 obtain rfl:u=Value.ref a:=rx
 refine qs7 I1 ea c hm l ?_
 refine PySem.W.callWith_K (first:=[.ref a]) (h₀:=X.base) I.ok.mod.kin hm.kp (thn (ha pos pins s1 σ H1 _ I1 q) λus s2 ⟨vs,H2,I2,r,q2⟩=>⟨I2.kIn,?_⟩) hst hpl
 exact qz2 (us:=.ref a :: us) (vs:=.ref a :: vs) F hr hb hd hx I2 (.cons rfl r) q2
theorem z09 {pl:Sem Bool}(he:PE X o ta)(c:Cls X.K C)(hm:Meth X.K C m f)(F:FnOk X.prog X.w X.K X.mg X.base CX k f fd ps sp)(hr:Room k X.A)(hb:Binds X.K fd ps ds)(hd:Vals dvs ds)(hx:q73 CX X E)
  (ht:eval (.Call (.Attribute o m apos) [] [] pos) X.env=(do
   let ov <- eval o X.env
   standAt apos.atName
   let (f,first) <- holding [ov] (getMethod ov m pl)
   callWith pos f first (backTo pos (starEach [] X.env)) (backToKw pos (keywordEach [] X.env))):=by rfl) :
  PE X (.Call (.Attribute o m apos) [] [] pos) (tMeth C m sp dvs E ta qX6):=by
 intro pins s σ H Q I h
 refine PySem.W.methodCall_KW (pl:=pl) (thn (he pins s σ H _ I h) λu s1 ⟨x,H1,I1,rx,a,dx,fs,ex,ea,l,q⟩=>?_) ht
 subst ex
 obtain rfl:u=Value.ref a:=rx
 refine qs7 I1 ea c hm l ?_
 exact PySem.W.callWith_K0 (first:=[.ref a]) I1.kIn hm.kp (qz2 (us:=[.ref a]) (vs:=[.ref a]) F hr hb hd hx I1 (.cons rfl .nil) q)
structure Mk (K:PySem.W.Frag) (C f:Addr):Prop where
 makes:PySem.W.makesIn K C=true
 init:PySem.W.findIn K (.ref C) "__init__" = some (some (.ref f))
 fn:PySem.W.isFn K (.ref f)=true
 kp:PySem.W.keepIn K (.ref C)=true
theorem z00 {pins:List (Addr×Obj)}{σ:St}{H:Hp}{s:Shared}{Q:VK}{us:List Value}{vs:List V}(M:Mk X.K C f)(F:FnOk X.prog X.w X.K X.mg X.base CX k f fd ps sp)(hr:Room (k + 1) X.A)(hb:Binds X.K fd ps ds)(hd:Vals dvs ds)
  (hx:q73 CX X E) (I:Inv X pins σ H s) (r:Vals vs us)
  (h:∀ x dx,H x=none->H dx=none->dx≠x->sp (.ref x :: (vs ++ dvs)) (upd (upd H dx (.own x)) x (.ins C dx [])) (λv H2=>v=.non/\Q (.ref x) H2) E) :
  wpAny (model X.prog X.w) X.A (call (.ref C) us) (EP X pins σ Q) X.xe s:=by
 have hq:=h (s.heap.objs.size + 1) s.heap.objs.size (I.hok.fresh (Nat.le_succ _)) (I.hok.fresh (Nat.le_refl _)) (Nat.ne_of_lt (Nat.lt_succ_self _))
 have I2:=Inv.made (C:=C) I
 have r2:Vals (V.ref (s.heap.objs.size + 1) :: (vs ++ dvs)) (Value.ref (s.heap.objs.size + 1) :: (us ++ ds)):=.cons rfl (r.append hd)
 have hl:(Value.ref (s.heap.objs.size + 1) :: us ++ ds).length=ps.length:=by
  have e:=r2.length
  rw [F.len _ _ _ _ hq] at e
  exact e.symm
 refine wpAny_call (z40 (f:=f) I.kIn M.makes M.init (beq_iff_eq.mp M.fn) (codeAny_mono (F.run _ X.stack _ _ ⟨Value.ref (s.heap.objs.size + 1) :: us,[]⟩ (Value.ref (s.heap.objs.size + 1) :: (us ++ ds)) _ _ E (hr.make C us [])
  (I2.env0.make C us []) (hb _ (Value.ref (s.heap.objs.size + 1) :: us) I2.kIn hl) r2 hq) λr s' hq'=>?_))
 cases r with
 | error e=>exact hx pins σ _ _ e s' I2 hq'
 | ok fl =>
  cases fl with
  | ret u =>
   obtain ⟨v,H',I3,rv,ev,q3⟩:=I2.after hq'
   subst ev
   exact ⟨rv,⟨V.ref (s.heap.objs.size + 1),H',I3,rfl,q3⟩⟩
  | next=>exact False.elim hq'
  | brk=>exact False.elim hq'
  | cont=>exact False.elim hq'
theorem pe_make (M:Mk X.K C f)(F:FnOk X.prog X.w X.K X.mg X.base CX k f fd ps sp)(hr:Room (k + 1) X.A)(hg:Gl X x)(hm:X.mg x=some (.ref C))(hb:Binds X.K fd ps ds)(hd:Vals dvs ds)(hx:q73 CX X E)
  (ha:PA X (e :: es) t) (hdb:(x == ("__debug__" : Str))=false:=by decide) (he:starEach (e :: es) X.env=(false,eval e X.env) :: starEach es X.env:=by rfl) (hpl:(backTo pos (starEach es X.env)).any (·.1)=false:=by rfl) :
  PE X (.Call (.Name x p) (e :: es) [] pos) (tMake C sp dvs E t):=by
 intro pins s σ H Q I h
 refine wpAny_Call_Name_kw (qh2 I hg hm ?_ hdb)
 refine PySem.W.callWith_K (h₀:=X.base) I.ok.mod.kin M.kp (thn (ha pos pins s σ H _ I h) λus s1 ⟨vs,H1,I1,r,q⟩=>⟨I1.kIn,?_⟩) he hpl
 exact z00 M F hr hb hd hx I1 r q
end
section
variable {X:Cx}{CX:CXT}{k:Nat}{f C:Addr}{fd:FuncData}{ps ks:List Str}{sp:Sp}{E:XK}{x m:Str}{p pos apos kpos:Pos}{e o:Expr}{es:List Expr}{kws:List Keyword}{te ta:TE}{t tk:TA}{nm:Option Str}
structure KBinds (K:PySem.W.Frag) (fd:FuncData) (ps ks:List Str) (g:List Value->List Value->List Value) (gV:List V->List V->List V):Prop where
 to:∀(s:Shared) (us ws:List Value),K.In s.heap->(g us ws).length=ps.length->BindsTo s fd ⟨us,ks.zip ws⟩ (ps.zip (g us ws))
 rel:∀{vs:List V} {us:List Value} {zs:List V} {ws:List Value},Vals vs us->Vals zs ws->Vals (gV vs zs) (g us ws)
variable {g:List Value->List Value->List Value}{gV:List V->List V->List V}
end
structure FnScope (N P:List Str) (sc:Scope):Prop where
 kind:sc.kind=.function
 co:sc.isCoroutine=false
 gen:sc.isGenerator=false
 nd:N.Nodup
 pre:N.take P.length=P
 par:∀ x∈P,sc.names.lookup x=some .local∨sc.names.lookup x=some .cell
 nofree:∀ y∈sc.names,y.2≠.free
theorem qB0 {kindOf:Str->Option NameKind}{x:Str}:∀{binds:List (Str×Value)}{m:Str->Option Value},(∀ v,(x,v)∉binds)->bindL kindOf binds m x=m x
 | [],_,_=>rfl
 | (n,v) :: r,m,h=>by
  unfold bindL
  rw [qB0 λw hw=>h w (List.mem_cons_of_mem _ hw)]
  split
  ·have:x≠n:=by rintro rfl; exact h v List.mem_cons_self
   simp [this]
  ·rfl
theorem qB2 {kindOf:Str->Option NameKind}{x:Str}:∀{binds:List (Str×Value)}{m:Str->Option Value},(∀ v,(x,v)∉binds)->bindC kindOf binds m x=m x
 | [],_,_=>rfl
 | (n,v) :: r,m,h=>by
  unfold bindC
  rw [qB2 λw hw=>h w (List.mem_cons_of_mem _ hw)]
  split
  ·rfl
  ·have:x≠n:=by rintro rfl; exact h v List.mem_cons_self
   simp [this]
theorem qB1 {kindOf:Str->Option NameKind}{x:Str}{v:Value}:∀{P:List Str}{vs:List Value}{i:Nat}{m:Str->Option Value},P.Nodup->P[i]? = some x->vs[i]? = some v->kindOf x=some .local ->
  bindL kindOf (P.zip vs) m x=some v
 | [],_,_,_,_,h,_,_=>by simp at h
 | _ :: _,[],_,_,_,_,h,_=>by simp at h
 | p :: P,w :: vs,0,m,nd,h1,h2,hk=>by
  simp at h1 h2; subst h1; subst h2
  show bindL kindOf ((p,w) :: P.zip vs) m p=_
  unfold bindL
  rw [qB0 λv hv=>(List.nodup_cons.mp nd).1 (List.of_mem_zip hv).1,if_pos hk]
  simp
 | p :: P,w :: vs,i + 1,m,nd,h1,h2,hk=>by
  show bindL kindOf ((p,w) :: P.zip vs) m x=_
  unfold bindL
  exact qB1 (i:=i) (List.nodup_cons.mp nd).2 (by simpa using h1) (by simpa using h2) hk
theorem qB3 {kindOf:Str->Option NameKind}{x:Str}{v:Value}:∀{P:List Str}{vs:List Value}{i:Nat}{m:Str->Option Value},P.Nodup->P[i]? = some x->vs[i]? = some v->kindOf x≠some .local ->
  bindC kindOf (P.zip vs) m x=some v
 | [],_,_,_,_,h,_,_=>by simp at h
 | _ :: _,[],_,_,_,_,h,_=>by simp at h
 | p :: P,w :: vs,0,m,nd,h1,h2,hk=>by
  simp at h1 h2; subst h1; subst h2
  show bindC kindOf ((p,w) :: P.zip vs) m p=_
  unfold bindC
  rw [qB2 λv hv=>(List.nodup_cons.mp nd).1 (List.of_mem_zip hv).1,if_neg hk]
  simp
 | p :: P,w :: vs,i + 1,m,nd,h1,h2,hk=>by
  show bindC kindOf ((p,w) :: P.zip vs) m x=_
  unfold bindC
  exact qB3 (i:=i) (List.nodup_cons.mp nd).2 (by simpa using h1) (by simpa using h2) hk
def start (N:List Str)(vs:List V):St:=vs.map some ++ List.replicate (N.length - vs.length) none
def qD2 (CX:CXT)(P:Program)(w:World)(K:PySem.W.Frag)(mg:Str->Option Value)(base:Heap)(N:List Str)(qual:Str)(scope:Scope)(f:Addr)(cd:Value)(A:Around)(outer:List Env)(s:Shared)(H:Hp)(E:XK):Cx where
 prog:=P
 w:=w
 K:=K
 mg:=mg
 base:=base
 A:=A.deeper (envOfC qual scope s.heap.objs.size f cd)
 N:=N
 s₀:=s
 H₀:=H
 env:=envOfC qual scope s.heap.objs.size f cd
 outer:=outer
 stack:=envOfC qual scope s.heap.objs.size f cd :: outer
 ex:=[]
 calm:=true
 fn:=λ_=>true
 pn:=[]
 xe:=λe s'=>wpAny (model P w) (A.deeper (envOfC qual scope s.heap.objs.size f cd)) (leaving (envOfC qual scope s.heap.objs.size f cd) e) (λ_ s''=>CX outer H s E e s'') (λe' s''=>CX outer H s E e' s'') s'
theorem qI0 {sc:Scope}{n:Nat}{x:Str}(h:sc.names.lookup x=some .cell):∃ c,(cellsFrom n sc.names []).lookup x=some c:=by
 have q:=PySem.W.cellsFrom_some sc.names n [] (.inl h)
 exact Option.isSome_iff_exists.mp q
theorem qT7 {CX:CXT}{P:Program}{w:World}{K:PySem.W.Frag}{mg:Str->Option Value}{base:Heap}{N ps:List Str}{qual:Str}{scope:Scope}{f:Addr}{cd:Value}{A:Around}{outer:List Env}{s s1:Shared}{H:Hp}{E:XK}{us:List Value}{vs:List V}
  (S:FnScope N ps scope) (hd:A.handled=none) (e0:Env0 P w K mg base A outer s H) (hl:vs.length=ps.length) (r:Vals vs us)
  (x:InCallC s s.heap.objs.size (bindL (envOfC qual scope s.heap.objs.size f cd).kindOf (ps.zip us) λ_=>none) (cellsFrom (s.heap.objs.size + 1) scope.names []) (bindC (envOfC qual scope s.heap.objs.size f cd).kindOf (ps.zip us) λ_=>none) s1) :
  Inv (qD2 CX P w K mg base N qual scope f cd A outer s H E) [] (start N vs) H s1:=by
 have hpl:ps.length<=N.length:=by have:=congrArg List.length S.pre; rw [List.length_take] at this; omega
 obtain ⟨h1,tk,rfl,hk⟩:=x.done
 have noA:∀ b:Addr,b∉(qD2 CX P w K mg base N qual scope f cd A outer s H E).ex:=λb z=>absurd (show b∈([]:List Addr) from z) (by simp)
 refine ⟨⟨e0.mod,S.kind,rfl,rfl,Nat.le_refl _,λy z c h1 h2=>?_,λy hy=>?_,λy c _ h=>?_,λ_=>hd,Around.frames_deeper e0.frames,.inr ⟨rfl,rfl⟩,λb z=>absurd z (noA b),e0.bs,e0.bsz,λb _ _=>noA b,λb z=>absurd z (noA b),e0.funs,e0.frf⟩,
  rfl,e0.bare,Un.kept hk,⟨_,x.toInCall.ns,λi y v h1 h2 h3=>?_⟩,λy c h=>⟨_,x.cell y c h⟩,e0.hok.fresh (Nat.le_refl _),λy c h=>?_,λp hp=>absurd (show p∈([]:List (Addr×Obj)) from hp) (by simp),e0.hok.kept hk,?_⟩
 ·exact name_of_addr x.apart (PySem.mem_of_lookup h1) (PySem.mem_of_lookup h2)
 ·have hy:scope.names.lookup y=some .cell∨scope.names.lookup y=some .free:=hy
  rcases hy with hy | hy
  ·exact qI0 hy
  ·exact absurd rfl (S.nofree _ (PySem.mem_of_lookup hy))
 ·exact Nat.le_of_lt (x.above y c (PySem.mem_of_lookup h))
 ·have hi:i < vs.length:=by
   unfold start at h2
   by_cases hi:i < vs.length
   ·exact hi
   ·rw [List.getElem?_append_right (by simpa using hi)] at h2
    rw [List.getElem?_replicate] at h2
    split at h2 <;> cases h2
  have ha:vs[i]? = some v:=by
   unfold start at h2
   rw [List.getElem?_append_left (by simpa using hi),List.getElem?_map] at h2
   cases e:vs[i]? with
   | none=>rw [e] at h2; cases h2
   | some a=>rw [e] at h2; cases h2; rfl
  obtain ⟨u,hu,rv⟩:=r.get ha
  have hp:ps[i]? = some y:=by
   rw [<- S.pre,List.getElem?_take_of_lt (by omega)]; exact h1
  have ndP:ps.Nodup:=by rw [<- S.pre]; exact S.nd.sublist (List.take_sublist _ _)
  refine ⟨u,rv,?_⟩
  rcases S.par y (List.mem_of_getElem? hp) with k | k
  ·exact .inl ⟨k,qB1 ndP hp hu k⟩
  ·obtain ⟨c,e⟩:=qI0 (n:=s.heap.objs.size + 1) k
   refine .inr ⟨.inl k,c,e,?_⟩
   have q:=x.cell y c e
   rw [qB3 ndP hp hu (by show scope.names.lookup y≠_; rw [k]; decide)] at q
   exact q
 ·exact e0.hok.fresh (Nat.le_of_lt (x.above y c (PySem.mem_of_lookup h)))
 ·unfold start
  show _=N.length
  rw [List.length_append,List.length_map,List.length_replicate]
  omega
theorem fn_of {CX:CXT}{P:Program}{w:World}{K:PySem.W.Frag}{mg:Str->Option Value}{base:Heap}{k:Nat}{f:Addr}{name qual:Str}{params:Arguments}{body:List Stmt}{scope:Scope}{dV kV doc pm cdv ct oc:Value}{an od:Option Addr}
  {osl:Array (Option Value)} {N ps:List Str} {sp:Sp} (lk:K.lookup f=some ⟨oc,od,.func (PySem.W.fnOf name qual params body scope dV kV doc pm an cdv ct),osl⟩) (hcd:PySem.W.codeIn K cdv qual=true) (S:FnScope N ps scope)
  (len:∀ vs H Q E,sp vs H Q E->vs.length=ps.length)
  (hbody:∀(A:Around) (outer:List Env) (s:Shared) (H:Hp) (vs:List V) (Q:VK) (E:XK),Room k (A.deeper (envOfC qual scope s.heap.objs.size f cdv))->sp vs H Q E ->
   ∃ t,PSs (qD2 CX P w K mg base N qual scope f cdv A outer s H E) body t/\t { nx:=λ_ H'=>Q .non H',rt:=Q } (start N vs) H) :
  FnOk P w K mg base CX (k + 1) f (PySem.W.fnOf name qual params body scope dV kV doc pm an cdv ct) ps sp:=by
 refine ⟨len,λA outer s H args us vs Q E hr e0 hb r hsp=>?_⟩
 have hl:=len _ _ _ _ hsp
 have KX:K.In s.heap:=e0.mod.kin.keeps λb o e=>(e0.bs b o e).1
 have lim:s.heap.NoLimit:=e0.mod.nolimit.keeps λb o e=>(e0.bs b o e).1
 have hkind:∀ y∈ps.zip us,scope.names.lookup y.1=some .local∨(scope.names.lookup y.1=some .cell/\((cellsFrom (s.heap.objs.size + 1) scope.names []).lookup y.1).isSome=true):=λ⟨n,v⟩ hy=>by
  rcases S.par n (List.of_mem_zip hy).1 with q | q
  ·exact .inl q
  ·exact .inr ⟨q,PySem.W.cellsFrom_some _ _ _ (.inl q)⟩
 refine codeAny_call_function hr.depth (KX _ _ lk) rfl S.co S.gen rfl (PySem.W.codeRec_of KX hcd) (hb _ _ _ _ ?_)
 refine wpAny_newFunctionEnv_cells S.kind hkind λenv he s1 x=>?_
 subst he
 refine ⟨lim.keeps x.toInCall.keep,codeAny_func ?_⟩
 obtain ⟨t,ht,hq⟩:=hbody A outer s H vs Q E (hr.deeper _) hsp
 have I:Inv (qD2 CX P w K mg base N qual scope f cdv A outer s H E) [] (start N vs) H s1:=qT7 S hr.hd e0 hl r x
 refine wpAny_mono (ht [] s1 (start N vs) H _ I hq) (λfl s' hs=>?_) λe s' hs=>hs
 have fin:∀{σ':St} {H':Hp} {v:V} {u:Value},Inv (qD2 CX P w K mg base N qual scope f cdv A outer s H E) [] σ' H' s'->RelV v u->Q v H'->CE outer P w H s Q u s' :=
  λ{σ' H' v u} J rv q=>⟨v,H',J.os,J.bare,J.base,J.hok,rv,q⟩
 cases fl with
 | ret u =>
  obtain ⟨v,σ',H',J,rv,q⟩:=hs
  exact fin J rv q
 | next =>
  obtain ⟨σ',H',J,q⟩:=hs
  exact fin (v:=V.non) (u:=Value.none) J rfl q
 | brk =>
  obtain ⟨_,_,_,q⟩:=hs
  exact False.elim q
 | cont =>
  obtain ⟨_,_,_,q⟩:=hs
  exact False.elim q
section
variable {X:Cx}{x:Str}{p pos:Pos}{e:Expr}{es:List Expr}{t:TA}{id T:String}{r:List V->Hp->VK->Prop}
def tCB (r:List V->Hp->VK->Prop)(t:TA):TE:=λσ H Q=>t σ H λvs H1=>r vs H1 Q
theorem q12 (hc:qj3 X (.builtin id) r) (hg:Gl X x) (hm:X.mg x=none) (hv:bootBuiltins x=some (.builtin id)) (ha:PA X (e :: es) t) (hn:x ≠ "__name__" := by decide) (hdb:(x == ("__debug__" : Str))=false:=by decide)
  (he:starEach (e :: es) X.env=(false,eval e X.env) :: starEach es X.env:=by rfl) (hpl:(backTo pos (starEach es X.env)).any (·.1)=false:=by rfl):PE X (.Call (.Name x p) (e :: es) [] pos) (tCB r t):=by
 intro pins s σ H Q I h
 refine wpAny_Call_Name_kw (qi5 I hg hm hv ?_ hn hdb)
 exact PyProof.Rows.callWith_builtin1 (thn (ha pos pins s σ H _ I h) λus s1 ⟨vs,H1,I1,r1,q1⟩=>hc pins s1 σ H1 vs us Q I1 r1 q1) he hpl
theorem qb4 (hc:qj3 X (.type T) r) (hg:Gl X x) (hm:X.mg x=none) (hv:bootBuiltins x=some (.type T)) (ha:PA X (e :: es) t) (hn:x ≠ "__name__" := by decide) (hdb:(x == ("__debug__" : Str))=false:=by decide)
  (he:starEach (e :: es) X.env=(false,eval e X.env) :: starEach es X.env:=by rfl) (hpl:(backTo pos (starEach es X.env)).any (·.1)=false:=by rfl):PE X (.Call (.Name x p) (e :: es) [] pos) (tCB r t):=by
 intro pins s σ H Q I h
 refine wpAny_Call_Name_kw (qi5 I hg hm hv ?_ hn hdb)
 exact PyProof.Rows.callWith_type1 (thn (ha pos pins s σ H _ I h) λus s1 ⟨vs,H1,I1,r1,q1⟩=>hc pins s1 σ H1 vs us Q I1 r1 q1) he hpl
end
end L2
namespace HT
open PySem PyProof.Rows
section
open PySem.SeqAt
open PySem.AutoSeq1 (wpAny_loadPart')
open PySem.MeetsSeq PySem.MeetsSeq2 PySem.MeetsSeq3
end
section
variable {prog:Program}{w:World}{A:Around}{E:Value->Shared->Prop}{s:Shared}
def sIx (n d:Nat):Option Int->Nat
 | none=>d
 | some v=>if v < 0 then (v + (n:Int)).toNat else min v.toNat n
theorem sIx_le (n d:Nat)(hd:d<=n)(o:Option Int):sIx n d o<=n:=by
 cases o with
 | none=>exact hd
 | some v =>
  show (if v < 0 then (v + (n:Int)).toNat else min v.toNat n)<=n
  by_cases hv:v < 0
  ·rw [if_pos hv]; omega
  ·rw [if_neg hv]; exact Nat.min_le_right _ _
theorem qW1 (v:Int)(n d:Nat):(if v < 0 then max (v + (n:Int)) 0 else min v (n:Int))=((sIx n d (some v):Nat):Int):=by
 show (if v < 0 then max (v + (n:Int)) 0 else min v (n:Int))=(((if v < 0 then (v + (n:Int)).toNat else min v.toNat n):Nat):Int)
 by_cases hv:v < 0
 ·simp only [if_pos hv]; omega
 ·simp only [if_neg hv]; omega
theorem qL9 (lo hi:Option Int)(n:Nat):Builtin.Slice.sliceAdjust lo hi 1 (n:Int)=(((sIx n 0 lo:Nat):Int),((sIx n n hi:Nat):Int)):=by
 have h1:¬ ((1:Int) < 0):=by omega
 unfold Builtin.Slice.sliceAdjust
 simp only [h1,if_false]
 refine Prod.ext ?_ ?_
 ·cases lo with
  | none=>rfl
  | some v=>exact qW1 v n 0
 ·cases hi with
  | none=>rfl
  | some v=>exact qW1 v n n
theorem qJ5 (i j:Nat):Builtin.Slice.slicePlaces (i:Int) (j:Int) 1=j - i:=by
 unfold Builtin.Slice.slicePlaces
 have h1:(1:Int) > 0:=by omega
 simp only [h1,if_true,Int.ediv_one]
 split <;> omega
theorem qr6 {v:Value}{o:Option Int}{Q:Option Int->Shared->Prop}(p:IsPart v o)(h:Q o s):wpAny (model prog w) A (Builtin.Slice.slicePartIndex v) Q E s:=by
 cases p with
 | none=>exact slicePart_none h
 | int i t=>exact slicePart_int h
theorem qm4 {sl:Addr}{vl vu:Value}{lo hi:Option Int}{n:Nat}{Q:Int×Int×Nat->Shared->Prop}(hs:s.heap.IsSliceOf sl vl vu .none)(pl:IsPart vl lo)(pu:IsPart vu hi)
  (h:Q (((sIx n 0 lo:Nat):Int),1,sIx n n hi - sIx n 0 lo) s):wpAny (model prog w) A (Builtin.Slice.sliceApplied (.ref sl) (pure (n:Int))) Q E s:=by
 obtain ⟨os,hos,hcs,hds⟩:=id hs
 unfold Builtin.Slice.sliceApplied Builtin.Slice.sliceFields
 refine wpAny_bind (wpAny_bind (wpAny_field hos hds (x:=vl) rfl (wpAny_bind (wpAny_field hos hds (x:=vu) rfl (wpAny_bind (wpAny_field hos hds (x:=.none) rfl (wpAny_pure ?_)))))))
 refine wpAny_bind (slicePart_none ?_)
 show wpAny _ _ (if ((1:Int) == 0)=true then _ else _) _ _ s
 rw [if_neg (by decide)]
 refine wpAny_bind (qr6 pl (wpAny_bind (qr6 pu (wpAny_bind (wpAny_pure ?_)))))
 show wpAny _ _ (match Builtin.Slice.sliceAdjust lo hi 1 (n:Int) with | (lo,hi)=>pure (lo,(1:Int),Builtin.Slice.slicePlaces lo hi 1)) _ _ s
 rw [qL9 lo hi n]
 show wpAny _ _ (pure (((sIx n 0 lo:Nat):Int),(1:Int),Builtin.Slice.slicePlaces ((sIx n 0 lo:Nat):Int) ((sIx n n hi:Nat):Int) 1)) _ _ s
 rw [qJ5]
 exact wpAny_pure h
theorem z07 (xs:Array Value)(i k:Nat):((List.range k).filterMap λ(m:Nat)=>xs[((i:Int) + (m:Int) * 1).toNat]?).toArray=((xs.toList.drop i).take k).toArray:=by
 have e:(λ(m:Nat)=>xs[((i:Int) + (m:Int) * 1).toNat]?)=λm=>xs[i + m]? := by
  funext m
  have:((i:Int) + (m:Int) * 1).toNat=i + m:=by omega
  rw [this]
 rw [e]
 have:=pick_run xs i k
 rw [List.filterMap_map] at this
 have e2:((λx=>xs[x]?) ∘ λx=>i + x)=λm=>xs[i + m]? := rfl
 rw [e2] at this
 rw [this]
theorem getItem_tuple_cut {t sl:Addr}{items:Array Value}{vl vu:Value}{lo hi:Option Int}{Q:Value->Shared->Prop}(ht:IsTup s.heap t items)(hs:s.heap.IsSliceOf sl vl vu .none)(pl:IsPart vl lo)(pu:IsPart vu hi)
  (hw:¬ (sIx items.size 0 lo=0/\sIx items.size items.size hi=items.size))
  (h:Q (.ref s.heap.objs.size) { s with heap:=s.heap.push { cls:=.type "tuple",data:=.seq ((items.toList.drop (sIx items.size 0 lo)).take (sIx items.size items.size hi - sIx items.size 0 lo)).toArray } })
  (hsz:items.size<=sizeLine):wpAny (model prog w) A (getItem (.ref t) (.ref sl)) Q E s:=by
 have htake:sizeOk (.seq ((items.toList.drop (sIx items.size 0 lo)).take (sIx items.size items.size hi - sIx items.size 0 lo)).toArray):=by
  show ((items.toList.drop (sIx items.size 0 lo)).take (sIx items.size items.size hi - sIx items.size 0 lo)).toArray.size<=sizeLine
  rw [List.size_toArray,List.length_take,List.length_drop,Array.length_toList]
  omega
 have hj:sIx items.size items.size hi<=items.size:=sIx_le _ _ (Nat.le_refl _) hi
 obtain ⟨os,hos,hcs,hds⟩:=id hs
 have hTs:s.TypeIs (.ref sl) "slice" := ⟨os,hos,hcs⟩
 unfold getItem
 try with_reducible refine wpAny_holding ?_
 first | refine wpAny_bind (wpAny_pure ?_) | skip
 refine wpAny_bind (wpAny_sequenceKey ht.typeIs (by decide) ?_)
 refine wpAny_bind (wpAny_callSpecial?_slot (name:=Str.ofString "__getitem__") ht.typeIs PyProof.Rows.slot_tuple_getitem
  (wpAny_call_entry PyProof.Rows.slot_tuple_getitem ht.typeIs entry_tuple_getitem ?_ (args_tuple_getitem _ _)))
 show wpAny _ _ (Builtin.Tuple.tupleItemsOf (.ref t) >>= _) _ _ s
 refine wpAny_bind (tupleItemsOf_ ht ?_)
 refine wpAny_bind (wpAny_typeOf hTs ?_)
 rw [if_pos (by decide)]
 refine wpAny_bind (qm4 hs pl pu ?_)
 have hno:¬ ((((sIx items.size 0 lo:Nat):Int) == 0 && (1:Int) == 1 && (sIx items.size items.size hi - sIx items.size 0 lo) == items.size)=true):=by
  intro q
  rw [Bool.and_eq_true,Bool.and_eq_true] at q
  have q1:((sIx items.size 0 lo:Nat):Int)=0:=eq_of_beq q.1.1
  have q2:sIx items.size items.size hi - sIx items.size 0 lo=items.size:=eq_of_beq q.2
  exact hw ⟨by omega,by omega⟩
 show wpAny _ _ (if (((sIx items.size 0 lo:Nat):Int) == 0 && (1:Int) == 1 && (sIx items.size items.size hi - sIx items.size 0 lo) == items.size)=true then _ else _) _ _ s
 rw [if_neg hno,z07]
 first
  | exact wpAny_bind (m:=Builtin.Tuple.tupleExact _) (wpAny_newObj_type (wpAny_pure ⟨_,rfl,wpAny_pure h⟩) htake)
  | exact wpAny_bind (m:=Builtin.Tuple.tupleExact _) (wpAny_newObj_type (wpAny_bind (wpAny_pure (wpAny_pure ⟨_,rfl,wpAny_pure h⟩))) htake)
  | exact wpAny_bind (wpAny_bind (m:=Builtin.Tuple.tupleExact _) (wpAny_newObj_type (wpAny_pure (wpAny_pure ⟨_,rfl,wpAny_pure h⟩)) htake))
  | exact wpAny_bind (wpAny_bind (m:=Builtin.Tuple.tupleExact _) (wpAny_newObj_type (wpAny_pure ⟨_,rfl,wpAny_pure h⟩) htake))
end
end HT
namespace L2
open PySem PySem.Spec PyProof.Rows
abbrev TO:=St->Hp->(Option Int->Hp->Prop)->Prop
def PO (X:Cx)(e:Option Expr)(t:TO):Prop :=
 ∀(pins:List (Addr×Obj)) (s:Shared) (σ:St) (H:Hp) (Q:Option Int->Hp->Prop),Inv X pins σ H s->t σ H Q ->
  wpAny (model X.prog X.w) X.A (evalPart e X.env) (λu s'=>∃ o H',Inv X pins σ H' s'/\IsPart u o/\Q o H') X.xe s
def qN3:TO:=λ_ H Q=>Q none H
def tPart (t:TE):TO:=λσ H Q=>t σ H λx H1=>∃ i,x=.int i/\Q (some i) H1
section
variable {X:Cx}{e:Expr}{te:TE}{lo hi:Option Expr}{tl th:TO}{pos p2:Pos}
theorem q76:PO X none qN3:=by
 intro pins s σ H Q I h
 rw [evalPart_none]
 exact wpAny_pure ⟨none,H,I,.none,h⟩
theorem q75 (h:PE X e te):PO X (some e) (tPart te):=by
 intro pins s σ H Q I hw
 rw [evalPart_some]
 refine thn (h pins s σ H _ I hw) λu s1 ⟨x,H1,I1,r1,q1⟩=>?_
 obtain ⟨i,rfl,q⟩:=q1
 obtain ⟨t,rfl⟩:=r1
 exact ⟨some i,H1,I1,.int i t,q⟩
def SlR (X:Cx)(r:V->Option Int->Option Int->Hp->VK->Prop):Prop :=
 ∀(pins:List (Addr×Obj)) (s:Shared) (σ:St) (H:Hp) (x:V) (v vl vu:Value) (lo hi:Option Int) (sl:Addr) (Q:VK),Inv X pins σ H s->RelV x v->s.heap.IsSliceOf sl vl vu .none->IsPart vl lo->IsPart vu hi->r x lo hi H Q ->
  ∃ T id,typeLookup (.type T) "__getitem__" = pure (some (.builtin id))/\s.TypeIs v T/\wpAny (model X.prog X.w) X.A (getItem v (.ref sl)) (EP X pins σ Q) X.xe s
def tSl (r:V->Option Int->Option Int->Hp->VK->Prop)(te:TE)(tl th:TO):TE:=λσ H Q=>te σ H λx H1=>tl σ H1 λl H2=>th σ H2 λu H3=>r x l u H3 Q
theorem q56 {r:V->Option Int->Option Int->Hp->VK->Prop}(hr:SlR X r)(he:PE X e te)(hl:PO X lo tl)(hu:PO X hi th):PE X (.Subscript e (.Slice lo hi none p2) pos) (tSl r te tl th):=by
 intro pins s σ H Q I h
 refine Subscript_ (thn (he pins s σ H _ I h) λv s1 ⟨x,H1,I1,r1,q1⟩=>?_)
 refine wpAny_Slice (thn (hl pins s1 σ H1 _ I1 q1) λvl s2 ⟨l,H2,I2,pl,q2⟩=>thn (hu pins s2 σ H2 _ I2 q2) λvu s3 ⟨u,H3,I3,pu,q3⟩=>?_)
 rw [evalPart_none]
 refine wpAny_pure ?_
 have I4:Inv X pins σ H3 { s3 with heap:=s3.heap.push { cls:=.type "slice",data:=.fields #[vl,vu,.none] } }:=I3.kept (t':=s3.toks) λb ob q=>Heap.get?_push_of_some _ q
 obtain ⟨T,id,hT,ht,hg⟩:=hr pins { s3 with heap:=s3.heap.push { cls:=.type "slice",data:=.fields #[vl,vu,.none] } } σ H3 x v vl vu l u s3.heap.objs.size Q I4 r1 (Heap.IsSliceOf.new ..) pl pu q3
 show wpAny (model X.prog X.w) X.A (subscriptTail e (.Slice lo hi none p2) v (.ref s3.heap.objs.size)) (EP X pins σ Q) X.xe { s3 with heap:=s3.heap.push { cls:=.type "slice",data:=.fields #[vl,vu,.none] } }
 exact tail_any (ops:=[.ref s3.heap.objs.size,v]) ht hT hg (by with_unfolding_all rfl)
def ql0 (xs:List V)(lo hi:Option Int):List V:=(xs.drop (HT.sIx xs.length 0 lo)).take (HT.sIx xs.length xs.length hi - HT.sIx xs.length 0 lo)
theorem qq6 (xs:List V)(lo hi:Option Int):(ql0 xs lo hi).length<=xs.length:=by
 unfold ql0
 rw [List.length_take,List.length_drop]
 omega
def rSlT (K:PySem.W.Frag):V->Option Int->Option Int->Hp->VK->Prop:=λx lo hi H Q=>∃ a xs,x=.ref a/\SqT K H a xs /\
 ¬ (HT.sIx xs.length 0 lo=0/\HT.sIx xs.length xs.length hi=xs.length)/\∀ p,H p=none->Q (.ref p) (upd H p (.tup (ql0 xs lo hi)))
theorem sl_tup:SlR X (rSlT X.K):=by
 intro pins s σ H x v vl vu lo hi sl Q I rx hs pl pu h
 obtain ⟨a,xs,rfl,hx,hw,q⟩:=h
 cases rx
 obtain ⟨its,r,ht,hz⟩:=I.tuple hx
 have hlen:its.toArray.size=xs.length:=by rw [List.size_toArray]; exact r.length.symm
 refine ⟨"tuple",_,PyProof.Rows.slot_tuple_getitem.lookup,ht.typeIs,?_⟩
 refine HT.getItem_tuple_cut ht hs pl pu (by rw [hlen]; exact hw) ?_ (by rw [hlen]; exact hz)
 rw [hlen]
 refine ⟨.ref s.heap.objs.size,_,I.laid (t':=s.toks) (o:=.tup (ql0 xs lo hi)) (λb ob q=>Heap.get?_push_of_some _ q) (Nat.le_refl _) ?_,rfl,q _ (I.hok.fresh (Nat.le_refl _))⟩
 exact ⟨Nat.le_trans (qq6 xs lo hi) hz,_,(r.drop (HT.sIx xs.length 0 lo)).take (HT.sIx xs.length xs.length hi - HT.sIx xs.length 0 lo),IsTup.new _ _⟩
end
def ixN (n:Nat)(i:Int):Option Nat:=if 0<=i then (if i < n then some i.toNat else none) else if -(n:Int)<=i then some (i + n).toNat else none
def atI {α:Type}(xs:List α)(i:Int):Option α:=(ixN xs.length i).bind λj=>xs[j]?
theorem ixN_seq {n:Nat}{i:Int}{j:Nat}(h:ixN n i=some j):seqIndex? i n=some j/\j < n /\ -(n:Int)<=i/\i < n:=by
 unfold ixN at h
 by_cases h0:0<=i
 ·rw [if_pos h0] at h
  by_cases h1:i < n
  ·rw [if_pos h1] at h
   have e:i.toNat=j:=Option.some.inj h
   exact ⟨by rw [seqIndex_of h0 h1,e],by omega,by omega,h1⟩
  ·rw [if_neg h1] at h; cases h
 ·rw [if_neg h0] at h
  by_cases h1 : -(n:Int)<=i
  ·rw [if_pos h1] at h
   have e:(i + n).toNat=j:=Option.some.inj h
   exact ⟨by rw [seqIndex_neg (by omega) h1,e],by omega,h1,by omega⟩
  ·rw [if_neg h1] at h; cases h
theorem qD9 {α:Type}{xs:List α}{i:Int}{v:α}(h:atI xs i=some v):∃ j,seqIndex? i xs.length=some j/\xs[j]? = some v/\j < xs.length /\ -(xs.length:Int)<=i/\i < xs.length:=by
 unfold atI at h
 cases e:ixN xs.length i with
 | none=>rw [e] at h; cases h
 | some j =>
  rw [e] at h
  obtain ⟨h1,h2,h3,h4⟩:=ixN_seq e
  exact ⟨j,h1,h,h2,h3,h4⟩
theorem q43 {α:Type}{xs:List α}{j:Nat}{v:α}(h:xs[j]? = some v):atI xs (j:Int)=some v:=by
 have hj:j < xs.length:=(List.getElem?_eq_some_iff.mp h).1
 have e:ixN xs.length (j:Int)=some j:=by
  unfold ixN
  rw [if_pos (by omega),if_pos (by omega)]; simp
 unfold atI; rw [e]; exact h
def qX2 (b:Expr):Prop:=∀ o i,subscripted b false o i=operate [o,i] (getItem o i)
def IxR (X:Cx)(r:R2):Prop :=
 ∀(value slice:Expr) (pins:List (Addr×Obj)) (s:Shared) (σ:St) (H:Hp) (x y:V) (v u:Value) (Q:VK),Inv X pins σ H s->RelV x v->RelV y u->r x y H Q ->
  subscripted slice false v u=operate [v,u] (getItem v u)->wpAny (model X.prog X.w) X.A (subscriptTail value slice v u) (EP X pins σ Q) X.xe s
def MtR (X:Cx)(id:String)(r:V->List V->Hp->VK->Prop):Prop :=
 ∀(pins:List (Addr×Obj)) (s:Shared) (σ:St) (H:Hp) (x:V) (xs:List V) (v:Value) (us:List Value) (Q:VK),Inv X pins σ H s->RelV x v->Vals xs us->r x xs H Q ->
  wpAny (model X.prog X.w) X.A (call (.builtin id) (v :: us)) (EP X pins σ Q) X.xe s
section
variable {X:Cx}{a b:Expr}{ta tb:TE}{pos:Pos}
theorem IxR.or {r r':R2}(h:IxR X r)(h':IxR X r'):IxR X (λx y H Q=>r x y H Q∨r' x y H Q):=by
 intro value slice pins s σ H x y v u Q I rx ry q hs
 rcases q with q | q
 ·exact h value slice pins s σ H x y v u Q I rx ry q hs
 ·exact h' value slice pins s σ H x y v u Q I rx ry q hs
theorem q25 {r:R2}(hr:IxR X r)(ha:PE X a ta)(hb:PE X b tb)(hs:qX2 b):PE X (.Subscript a b pos) (tOp r ta tb):=by
 intro pins s σ H Q I h
 exact Subscript_ (binT ha hb I h λv u s2 x y H2 I2 rx ry q=>hr a b pins s2 σ H2 x y v u Q I2 rx ry q (hs _ _))
def qP4 (K:PySem.W.Frag):R2:=λx y H Q=>∃ p xs i v,x=.ref p/\y=.int i/\SqL K H p xs/\atI xs i=some v/\Q v H
def rIxT (K:PySem.W.Frag):R2:=λx y H Q=>∃ p xs i v,x=.ref p/\y=.int i/\SqT K H p xs/\atI xs i=some v/\Q v H
def rIxS:R2:=λx y H Q=>∃ z i c,x=.str z/\y=.int i/\z.length<=sizeLine/\atI z.cps.toList i=some c/\Q (.str ⟨#[c]⟩) H
theorem ix_list:IxR X (qP4 X.K):=by
 intro value slice pins s σ H x y v u Q I rx ry h hs
 obtain ⟨p,xs,i,z,rfl,rfl,hq,he,q⟩:=h
 cases rx
 obtain ⟨t,rfl⟩:=ry
 obtain ⟨its,r,pl,hz⟩:=I.list hq
 obtain ⟨j,h1,h2,h3,h4,h5⟩:=qD9 he
 obtain ⟨w,ew,rw'⟩:=r.get h2
 have hl:=r.length
 have hn:=qs5
 have fin:EP X pins σ Q w s:=⟨z,H,I,rw',q⟩
 by_cases h0:0<=i
 ·have hj:i.toNat=j:=by
   rw [seqIndex_of h0 h5] at h1
   exact Option.some.inj h1
  exact item_listR pl.isList h0 (by omega) (by rw [hj]; simpa using ew) fin hs
 ·have hj:(i + (its.toArray.size:Int)).toNat=j:=by
   rw [seqIndex_neg (by omega) h4] at h1
   rw [List.size_toArray,<- hl]
   exact Option.some.inj h1
  exact subscriptTail_builtinR (x:=w) pl.isList.typeIs slot_list_getitem.lookup
   (wpAny_getItem_list_neg (Q:=λr s'=>r=w/\EP X pins σ Q r s') pl.isList (by omega) (by rw [List.size_toArray] <;> omega) (by omega) (by rw [hj]; simpa using ew) ⟨rfl,fin⟩) hs
theorem ix_tup:IxR X (rIxT X.K):=by
 intro value slice pins s σ H x y v u Q I rx ry h hs
 obtain ⟨p,xs,i,z,rfl,rfl,hq,he,q⟩:=h
 cases rx
 obtain ⟨t,rfl⟩:=ry
 obtain ⟨its,r,pl,hz⟩:=I.tuple hq
 obtain ⟨j,h1,h2,h3,h4,h5⟩:=qD9 he
 obtain ⟨w,ew,rw'⟩:=r.get h2
 have hl:=r.length
 have hn:=qs5
 have fin:EP X pins σ Q w s:=⟨z,H,I,rw',q⟩
 exact subscriptTail_builtinR (x:=w) pl.typeIs slot_tuple_getitem.lookup
  (getItem_tuple (j:=j) (Q:=λr s'=>r=w/\EP X pins σ Q r s') pl (by omega) (by omega) (by rw [List.size_toArray,<- hl]; exact h1) (by simpa using ew) ⟨rfl,fin⟩) hs
theorem qd9:IxR X rIxS:=by
 intro value slice pins s σ H x y v u Q I rx ry h hs
 obtain ⟨z,i,c,rfl,rfl,hz,he,q⟩:=h
 obtain ⟨t,rfl⟩:=rx
 obtain ⟨t',rfl⟩:=ry
 obtain ⟨j,h1,h2,h3,h4,h5⟩:=qD9 he
 have hl:z.cps.toList.length=z.length:=by simp [Str.length]
 rw [hl] at h1 h4 h5
 have hn:=qs5
 exact tail_any (typeIs_str s z t) slot_str_getitem.lookup (getItem_str (c:=c) (by
  have e1:decide (i < -(2 ^ 63:Int))=false:=decide_eq_false (by omega)
  have e2:decide (i ≥ 2 ^ 63)=false:=decide_eq_false (by omega)
  rw [e1,e2,Bool.or_false]) (by rw [h1]; simpa using h2) ⟨.str ⟨#[c]⟩,H,I.tok _,⟨_,rfl⟩,q⟩) hs
def rIx (K:PySem.W.Frag):R2:=λx y H Q=>qP4 K x y H Q∨rIxT K x y H Q∨rIxS x y H Q
theorem z87:IxR X (rIx X.K):=ix_list.or (ix_tup.or qd9)
theorem qy8 (lo hi:Option Int)(n:Nat):(sliceBounds lo hi none n).1=((HT.sIx n 0 lo:Nat):Int)/\(sliceBounds lo hi none n).2.1=((HT.sIx n n hi:Nat):Int)/\(sliceBounds lo hi none n).2.2=1:=by
 refine ⟨?_,?_,rfl⟩
 ·cases lo with
  | none=>simp [sliceBounds,HT.sIx]
  | some i =>
   simp only [sliceBounds,HT.sIx,Option.getD_none,show (1:Int) > 0 by decide,if_true]
   by_cases h:i < 0
   ·simp only [h,if_true] <;> omega
   ·simp only [h,if_false] <;> omega
 ·cases hi with
  | none=>simp [sliceBounds,HT.sIx]
  | some i =>
   simp only [sliceBounds,HT.sIx,Option.getD_none,show (1:Int) > 0 by decide,if_true]
   by_cases h:i < 0
   ·simp only [h,if_true] <;> omega
   ·simp only [h,if_false] <;> omega
theorem qu0 (its:List Value)(lo hi:Option Int):slicePick its.toArray lo hi none=((its.drop (HT.sIx its.length 0 lo)).take (HT.sIx its.length its.length hi - HT.sIx its.length 0 lo)).toArray:=by
 obtain ⟨h1,h2,h3⟩:=qy8 lo hi its.toArray.size
 unfold slicePick
 rw [h1,h2,h3]
 simp only [sliceRange_one,pick_run,List.size_toArray] <;> rfl
def rSlL (K:PySem.W.Frag):V->Option Int->Option Int->Hp->VK->Prop:=λx lo hi H Q=>∃ a xs,x=.ref a/\SqL K H a xs/\∀ p,H p=none->Q (.ref p) (upd H p (.lst (ql0 xs lo hi)))
theorem qe2:SlR X (rSlL X.K):=by
 intro pins s σ H x v vl vu lo hi sl Q I rx hs pl pu h
 obtain ⟨a,xs,rfl,hx,q⟩:=h
 cases rx
 obtain ⟨its,r,ht,hz⟩:=I.list hx
 have hlen:=r.length
 refine ⟨"list",_,slot_list_getitem.lookup,ht.isList.typeIs,?_⟩
 refine wpAny_getItem_list_slice ht.isList hs pl pu .none (by simp) ?_ (by rw [List.size_toArray] <;> omega)
 rw [qu0,<- hlen]
 refine ⟨.ref s.heap.objs.size,_,I.laid (t':=s.toks) (o:=.lst (ql0 xs lo hi)) (λb ob q=>Heap.get?_push_of_some _ q) (Nat.le_refl _) ?_,rfl,q _ (I.hok.fresh (Nat.le_refl _))⟩
 exact ⟨Nat.le_trans (qq6 xs lo hi) hz,_,0,(r.drop (HT.sIx xs.length 0 lo)).take (HT.sIx xs.length xs.length hi - HT.sIx xs.length 0 lo),Heap.get?_push_size _ rfl⟩
def qi9:V->Bool
 | .non=>true
 | .bl _=>true
 | .int _=>true
 | .str _=>true
 | _=>false
def eqV:V->V->Bool
 | .non,.non=>true
 | .bl a,.bl b=>a == b
 | .bl a,.int b=>(if a then 1 else 0) == b
 | .int a,.bl b=>a == (if b then 1 else 0)
 | .int a,.int b=>a == b
 | .str a,.str b=>a == b
 | _,_=>false
theorem z94 {A:Around}{s:Shared}{y x:V}{u v:Value}(ry:RelV y u)(rx:RelV x v)(fy:qi9 y=true)(fx:qi9 x=true):SeqAt.EqAt A s u v (eqV y x):=by
 cases y with
 | non =>
  cases ry
  cases x with
  | non=>cases rx; exact SeqAt.EqAt.same _
  | bl b=>cases rx; exact SeqAt.EqAt.none_bool b
  | int b=>obtain ⟨t,rfl⟩:=rx; exact SeqAt.EqAt.none_int b t
  | str b=>obtain ⟨t,rfl⟩:=rx; exact SeqAt.EqAt.none_str b t
  | _=>exact absurd (show false=true from fx) Bool.false_ne_true
 | bl a =>
  cases ry
  cases x with
  | non=>cases rx; exact SeqAt.EqAt.bool_none a
  | bl b=>cases rx; exact SeqAt.EqAt.bool_bool a b
  | int b=>obtain ⟨t,rfl⟩:=rx; exact SeqAt.EqAt.bool_int a b t
  | str b=>obtain ⟨t,rfl⟩:=rx; exact SeqAt.EqAt.bool_str a b t
  | _=>exact absurd (show false=true from fx) Bool.false_ne_true
 | int a =>
  obtain ⟨t',rfl⟩:=ry
  cases x with
  | non=>cases rx; exact SeqAt.EqAt.int_none a t'
  | bl b=>cases rx; exact SeqAt.EqAt.int_bool a t' b
  | int b=>obtain ⟨t,rfl⟩:=rx; exact SeqAt.EqAt.int_int a t' b t
  | str b=>obtain ⟨t,rfl⟩:=rx; exact SeqAt.EqAt.int_str a t' b t
  | _=>exact absurd (show false=true from fx) Bool.false_ne_true
 | str a =>
  obtain ⟨t',rfl⟩:=ry
  cases x with
  | non=>cases rx; exact SeqAt.EqAt.str_none a t'
  | bl b=>cases rx; exact SeqAt.EqAt.str_bool a t' b
  | int b=>obtain ⟨t,rfl⟩:=rx; exact SeqAt.EqAt.str_int a t' b t
  | str b=>obtain ⟨t,rfl⟩:=rx; exact SeqAt.EqAt.str_str a t' b t
  | _=>exact absurd (show false=true from fx) Bool.false_ne_true
 | _=>exact absurd (show false=true from fy) Bool.false_ne_true
def eqU (x:V)(u:Value):Bool:=match u with
 | .none=>eqV .non x
 | .bool b=>eqV (.bl b) x
 | .int i _=>eqV (.int i) x
 | .str z _=>eqV (.str z) x
 | _=>false
theorem z93 {x y:V}{u:Value}(r:RelV y u)(f:qi9 y=true):eqU x u=eqV y x:=by
 cases y with
 | non=>cases r; rfl
 | bl b=>cases r; rfl
 | int i=>obtain ⟨t,rfl⟩:=r; rfl
 | str z=>obtain ⟨t,rfl⟩:=r; rfl
 | _=>exact absurd (show false=true from f) Bool.false_ne_true
theorem qr1 {x:V}:∀{xs:List V}{us:List Value},Vals xs us->xs.all qi9=true->us.any (eqU x)=xs.any λy=>eqV y x
 | _,_,.nil,_=>rfl
 | y :: xs,u :: us,.cons r t,f=>by
  rw [List.all_cons,Bool.and_eq_true] at f
  rw [List.any_cons,List.any_cons,z93 r f.1,qr1 t f.2]
theorem qi3 {A:Around}{s:Shared}{x:V}{v:Value}(rx:RelV x v)(fx:qi9 x=true):∀{xs:List V}{us:List Value},Vals xs us->xs.all qi9=true->∀ u∈us,SeqAt.EqAt A s u v (eqU x u)
 | _,_,.nil,_=>λu hu=>by cases hu
 | y :: xs,u :: us,.cons r t,f=>λu' hu=>by
  rw [List.all_cons,Bool.and_eq_true] at f
  rcases List.mem_cons.mp hu with rfl | hu
  ·rw [z93 r f.1]; exact z94 r rx f.1 fx
  ·exact qi3 rx fx t f.2 u' hu
def inV (x:V)(xs:List V):Bool:=xs.any λy=>eqV y x
def rIn (K:PySem.W.Frag)(neg:Bool):R2:=λx y H Q=>∃ p xs,y=.ref p/\(SqL K H p xs∨SqT K H p xs)/\qi9 x=true/\xs.all qi9=true/\Q (.bl (if neg then !inV x xs else inV x xs)) H
theorem q98:OpR X (compareOp .In) (rIn X.K false):=by
 intro pins s σ H x y v u Q I rx ry h
 obtain ⟨p,xs,rfl,hq,fx,fs,q⟩:=h
 cases ry
 rcases hq with hq | hq
 ·obtain ⟨its,r,pl,hz⟩:=I.list hq
  refine SeqAt.in_listAt (eqU x) pl.isList (λw hw=>qi3 rx fx r fs w (by simpa using hw)) ⟨.bl _,H,I,rfl,?_⟩
  rw [show its.toArray.any (eqU x)=its.any (eqU x) by simp,qr1 r fs]
  exact q
 ·obtain ⟨its,r,pl,hz⟩:=I.tuple hq
  refine SeqAt.in_tupleAt (eqU x) pl (λw hw=>qi3 rx fx r fs w (by simpa using hw)) ⟨.bl _,H,I,rfl,?_⟩
  rw [show its.toArray.any (eqU x)=its.any (eqU x) by simp,qr1 r fs]
  exact q
theorem qe6:OpR X (compareOp .NotIn) (rIn X.K true):=by
 intro pins s σ H x y v u Q I rx ry h
 obtain ⟨p,xs,rfl,hq,fx,fs,q⟩:=h
 cases ry
 rcases hq with hq | hq
 ·obtain ⟨its,r,pl,hz⟩:=I.list hq
  refine SeqAt.notIn_listAt (eqU x) pl.isList (λw hw=>qi3 rx fx r fs w (by simpa using hw)) ⟨.bl _,H,I,rfl,?_⟩
  rw [show its.toArray.any (eqU x)=its.any (eqU x) by simp,qr1 r fs]
  exact q
 ·obtain ⟨its,r,pl,hz⟩:=I.tuple hq
  refine SeqAt.notIn_tupleAt (eqU x) pl (λw hw=>qi3 rx fx r fs w (by simpa using hw)) ⟨.bl _,H,I,rfl,?_⟩
  rw [show its.toArray.any (eqU x)=its.any (eqU x) by simp,qr1 r fs]
  exact q
theorem q20:qj3 X (.builtin "len") (λxs H Q=>∃ p ys,xs=[.ref p]/\(SqL X.K H p ys∨SqT X.K H p ys)/\Q (.int ys.length) H):=by
 intro pins s σ H xs us Q I r h
 obtain ⟨p,ys,rfl,hq,q⟩:=h
 obtain ⟨u,rfl,rx⟩:=qI8 r
 cases rx
 have hn:=qs5
 rcases hq with hq | hq
 ·obtain ⟨its,r',pl,hz⟩:=I.list hq
  have hlen:=r'.length
  exact Calls.call_len_list pl.isList (by simp only [List.size_toArray] <;> omega) ⟨.int ys.length,H,I.tok _,⟨s.toks + 1,by rw [List.size_toArray,hlen]⟩,q⟩
 ·obtain ⟨its,r',pl,hz⟩:=I.tuple hq
  have hlen:=r'.length
  exact len_tuple pl (by simp only [List.size_toArray] <;> omega) ⟨.int ys.length,H,I.tok _,⟨s.toks + 1,by rw [List.size_toArray,hlen]⟩,q⟩
theorem q83:qj3 X (.builtin "len") (λxs H Q=>∃ z,xs=[.str z]/\z.length<=sizeLine/\Q (.int z.length) H):=by
 intro pins s σ H xs us Q I r h
 obtain ⟨z,rfl,hz,q⟩:=h
 obtain ⟨u,rfl,t,rfl⟩:=qI8 r
 have hn:=qs5
 exact len_str (by omega) ⟨.int z.length,H,I.tok _,⟨_,rfl⟩,q⟩
theorem qm3:qj3 X (.type "list") (λxs H Q=>∃ p ys,xs=[.ref p]/\(SqL X.K H p ys∨SqT X.K H p ys)/\∀ l,H l=none->Q (.ref l) (upd H l (.lst ys))):=by
 intro pins s σ H xs us Q I r h
 obtain ⟨p,ys,rfl,hq,q⟩:=h
 obtain ⟨u,rfl,rx⟩:=qI8 r
 cases rx
 have fin:∀(its:List Value),Vals ys its->ys.length<=sizeLine->∀(h':Heap) (c':Nat),(∀ b o',s.heap.get? b=some o'->h'.get? b=some o') ->
   h'.get? s.heap.objs.size=some { cls:=.type "list",dict:=none,data:=.seq its.toArray c',slots:=#[] }->EP X pins σ Q (.ref s.heap.objs.size) { s with heap:=h' }:=λits r' hz h' c' kp e =>
  ⟨.ref s.heap.objs.size,_,I.laid (t':=s.toks) kp (Nat.le_refl _) (show ObjOk X.prog X.w _ h' _ (.lst ys) from ⟨hz,its,c',r',e⟩),rfl,q _ (I.hok.fresh (Nat.le_refl _))⟩
 rcases hq with hq | hq
 ·obtain ⟨its,r',pl,hz⟩:=I.list hq
  have hlen:=r'.length
  obtain ⟨o,ho,hc,n,hd⟩:=pl.isList
  exact call_list_seq p (.inl rfl) ho hc hd (λh' c' kp e=>fin its r' hz h' c' kp e) (by simp only [List.size_toArray] <;> omega)
 ·obtain ⟨its,r',pl,hz⟩:=I.tuple hq
  have hlen:=r'.length
  obtain ⟨o,ho,hc,n,hd⟩:=pl
  exact call_list_seq p (.inr rfl) ho hc hd (λh' c' kp e=>fin its r' hz h' c' kp e) (by simp only [List.size_toArray] <;> omega)
def tyV (K:PySem.W.Frag)(T:String)(x:V)(H:Hp):Prop:=match x with
 | .str _=>T = "str"
 | .int _=>T = "int"
 | .ref p=>(T = "list" /\ ∃ xs,SqL K H p xs)∨(T = "tuple" /\ ∃ o,K.lookup p=some o/\o.cls=.type "tuple" /\ o.dict=none) ∨
   (T = "dict" /\ ((∃ kvs,H p=some (.dK kvs))∨∃ kvs,H p=some (.dT kvs)))∨(T = "set" /\ ∃ S n,H p=some (.set S n))
 | _=>False
theorem tyV_is {pins:List (Addr×Obj)}{σ:St}{H:Hp}{s:Shared}{T:String}{x:V}{v:Value}(I:Inv X pins σ H s)(r:RelV x v)(ty:tyV X.K T x H) :
  s.TypeIs v T/\∀ a,v=.ref a->∃ ob,s.heap.get? a=some ob/\ob.dict=none:=by
 cases x with
 | str z =>
  obtain ⟨t,rfl⟩:=r
  cases (show T = "str" from ty)
  exact ⟨typeIs_str s z t,λ_ e=>nomatch e⟩
 | int i =>
  obtain ⟨t,rfl⟩:=r
  cases (show T = "int" from ty)
  exact ⟨typeIs_int s i t,λ_ e=>nomatch e⟩
 | ref p =>
  cases r
  rcases ty with ⟨rfl,xs,hq⟩ | ⟨rfl,o,hk,hc,hd⟩ | ⟨rfl,hk⟩ | ⟨rfl,S,n,hk⟩
  ·obtain ⟨its,_,pl,_⟩:=I.list hq
   refine ⟨pl.isList.typeIs,λa e=>?_⟩
   cases e
   obtain ⟨o,n,e,c,hd,_⟩:=pl
   exact ⟨o,e,hd⟩
  ·refine ⟨⟨o,I.kIn p o hk,hc⟩,λa e=>?_⟩
   cases e
   exact ⟨o,I.kIn _ o hk,hd⟩
  ·have z:∃ o,s.heap.get? p=some o/\o.ExactDict:=by
    rcases hk with ⟨kvs,hk⟩ | ⟨kvs,hk⟩
    ·obtain ⟨_,_,_,_,o,_,_,e,ex,_⟩:=I.hok p _ hk
     exact ⟨o,e,ex⟩
    ·obtain ⟨_,_,_,_,o,_,_,e,ex,_⟩:=I.hok p _ hk
     exact ⟨o,e,ex⟩
   obtain ⟨o,e,ex⟩:=z
   refine ⟨⟨o,e,ex.1⟩,λa e2=>?_⟩
   cases e2
   exact ⟨o,e,ex.2.1⟩
  ·obtain ⟨o,_,_,_,e,ex,_⟩:=I.hok p _ hk
   refine ⟨⟨o,e,ex.1⟩,λa e2=>?_⟩
   cases e2
   exact ⟨o,e,ex.2.1⟩
 | _=>exact False.elim ty
def tBM (K:PySem.W.Frag)(T:String)(r:V->List V->Hp->VK->Prop)(to:TE)(t:TA):TE:=λσ H Q=>to σ H λx H1=>tyV K T x H1/\t σ H1 λxs H2=>r x xs H2 Q
variable {o e:Expr}{es:List Expr}{to:TE}{t:TA}{name:Str}{apos cpos:Pos}{T id:String}{r:V->List V->Hp->VK->Prop}
theorem qk1 (pa:PlainAttrs T) (slot:Slot T name id) (hty:typeOf (.builtin id)=pure (.type "method_descriptor")) (hm:MtR X id r) (ho:PE X o to) (ha:PA X (e :: es) t)
  (hbase:attributeBase o name X.env (eval o X.env)=eval o X.env:=by rfl)
  (hfew:((backTo cpos (starEach (e :: es) X.env)).all (λx=>!x.1) && (backToKw cpos (keywordEach [] X.env)).all (λx=>x.1.isSome)
   && decide ((e :: es).length + ([]:List Keyword).length + (if ([]:List Keyword).isEmpty then 0 else 1) < 30))=true:=by rfl)
  (hline:(apos.endLine == cpos.line)=true:=by rfl) (hs:starEach (e :: es) X.env=(false,eval e X.env) :: starEach es X.env:=by rfl) (hplain:(backTo cpos (starEach es X.env)).any (·.1)=false:=by rfl) :
  PE X (.Call (.Attribute o name apos) (e :: es) [] cpos) (tBM X.K T r to t):=by
 intro pins s σ H Q I h
 refine wpAny_Call_method_late hbase hfew hline rfl (thn (ho pins s σ H _ I h) λv s1 ⟨x,H1,I1,r1,ty,q1⟩=>?_)
 obtain ⟨h1,h2⟩:=tyV_is I1 r1 ty
 refine ⟨T,id,pa,slot,hty,h1,h2,?_⟩
 have hA:=ha cpos pins s1 σ H1 _ I1 q1
 rw [hs] at hA ⊢
 refine Calls.callWith_builtin (by show (false || (backTo cpos (starEach es X.env)).any (·.1))=false; rw [hplain] <;> rfl) (Calls.evalArgs_plain ?_)
 exact thn hA λus s2 ⟨vs,H2,I2,r2,q2⟩=>hm pins s2 σ H2 x vs v us Q I2 r1 r2 q2
end
def MtM (X:Cx)(id:String)(r:V->List V->Hp->VK->Prop):Prop :=
 ∀(pins:List (Addr×Obj)) (s:Shared) (σ:St) (H:Hp) (x:V) (xs:List V) (v:Value) (us:List Value) (Q:VK),Inv X pins σ H s->RelV x v->Vals xs us->r x xs H Q ->
  wpAny (model X.prog X.w) X.A (call (.builtin id) (v :: us)) (EP X pins σ Q) X.xe s
theorem Vals.one:∀{x:V}{us:List Value},Vals [x] us->∃ u,us=[u]/\RelV x u
 | _,_,.cons r .nil=>⟨_,rfl,r⟩
theorem Vals.two:∀{x y:V}{us:List Value},Vals [x,y] us->∃ u v,us=[u,v]/\RelV x u/\RelV y v
 | _,_,_,.cons r (.cons q .nil)=>⟨_,_,rfl,r,q⟩
section
variable {X:Cx}{pins:List (Addr×Obj)}{σ:St}{H:Hp}{s:Shared}{l b:Addr}{xs ys zs:List V}
theorem Inv.lset {its its':List Value}{n:Nat}{f:Array Value->Array Value}{t':Nat}(I:Inv X pins σ H s)(hH:H l=some (.lst xs))
  (e:s.heap.get? l=some { cls:=.type "list",data:=.seq its.toArray n }) (hf:f its.toArray=its'.toArray) (hv:Vals ys its') (hz:ys.length<=sizeLine) :
  Inv X pins σ (upd H l (.lst ys)) { s with heap:=s.heap.update l (Obj.mapSeq f),toks:=t' }:=by
 have q:=PySem.IsL.update e f
 rw [hf] at q
 refine I.write (x:=l) (e:=l) (by rw [hH]; exact trivial) (.inl rfl) (λb' u hb hu=>(Heap.get?_update_other s.heap (Obj.mapSeq f) (Ne.symm hb)).trans hu) ⟨_,q⟩ ?_
 exact ⟨hz,its',_,hv,q⟩
theorem Inv.lnew {its:List Value}{t':Nat}(I:Inv X pins σ H s)(hv:Vals ys its)(hz:ys.length<=sizeLine) :
  Inv X pins σ (upd H s.heap.objs.size (.lst ys)) { s with heap:=s.heap.push { cls:=.type "list",data:=.seq its.toArray },toks:=t' } :=
 I.laid (λ_ _ q=>Heap.get?_push_of_some _ q) (Nat.le_refl _) ⟨hz,its,0,hv,Heap.get?_push_size _ rfl⟩
theorem Inv.fresh (I:Inv X pins σ H s):H s.heap.objs.size=none:=I.hok.fresh (Nat.le_refl _)
theorem Inv.lstM (I:Inv X pins σ H s)(hH:H l=some (.lst xs)):xs.length<=sizeLine/\∃(its:List Value) (n:Nat),Vals xs its/\xs.length=its.length/\s.heap.get? l=some { cls:=.type "list",data:=.seq its.toArray n }:=by
 obtain ⟨z,its,n,r,e⟩:=I.hok l _ hH
 exact ⟨z,its,n,r,r.length,e⟩
end
section
variable {X:Cx}
def rAppend:V->List V->Hp->VK->Prop:=λx vs H Q=>∃ l xs y,x=.ref l/\vs=[y]/\H l=some (.lst xs)/\xs.length < sizeLine/\Q .non (upd H l (.lst (xs ++ [y])))
theorem q45:MtM X "list.append" rAppend:=by
 intro pins s σ H x vs v us Q I rx rv h
 obtain ⟨l,xs,y,rfl,rfl,hH,hz,q⟩:=h
 cases rx
 obtain ⟨u,rfl,ru⟩:=rv.one
 obtain ⟨z,its,n,r,hl,e⟩:=I.lstM hH
 refine call_meets F.slot_list_append ⟨_,e,rfl⟩ F.entry_list_append (F.args_list_append_2 _ _) (PySem.list_append l its.toArray n u (by rw [List.size_toArray]; omega)) ⟨e,?_⟩
 refine ⟨.non,_,I.lset (its':=its ++ [u]) hH e (by simp) (r.append (.cons ru .nil)) ?_,rfl,q⟩
 rw [List.length_append,List.length_singleton]
 omega
def rCat:R2:=λx y H Q=>∃ l b xs zs,x=.ref l/\y=.ref b/\H l=some (.lst xs)/\H b=some (.lst zs)/\xs.length + zs.length<=sizeLine/\∀ p,H p=none->Q (.ref p) (upd H p (.lst (xs ++ zs)))
theorem qz6:OpR X (binaryOp .Add) rCat:=by
 intro pins s σ H x y v u Q I rx ry h
 obtain ⟨l,b,xs,zs,rfl,rfl,hH,hB,hz,q⟩:=h
 cases rx
 cases ry
 obtain ⟨z,its,n,r,hl,e⟩:=I.lstM hH
 obtain ⟨z2,its2,n2,r2,hl2,e2⟩:=I.lstM hB
 refine PySem.P.add_list e e2 ?_ (by rw [List.size_toArray,List.size_toArray]; omega)
 have ea:its.toArray ++ its2.toArray=(its ++ its2).toArray:=by simp
 rw [ea]
 exact ⟨.ref _,_,I.lnew (t':=s.toks) (r.append r2) (by rw [List.length_append]; omega),rfl,q _ I.fresh⟩
end
section
variable {prog:Program}{w:World}{A:Around}{E:Value->Shared->Prop}{s:Shared}
end
section
variable {X:Cx}
end
section
variable {κ:Type} [DecidableEq κ]
def q67 (kvs:List (κ×V))(k:κ):Option V:=(kvs.find? λkv=>decide (kv.1=k)).map (·.2)
def qj4 (kvs:List (κ×V))(k:κ)(v:V):List (κ×V) :=
 if (kvs.any λkv=>decide (kv.1=k))=true then kvs.map (λkv=>if kv.1=k then (kv.1,v) else kv) else kvs ++ [(k,v)]
theorem q60 {p:κ×V}{r:List (κ×V)}{k:κ}(e:p.1=k):q67 (p :: r) k=some p.2:=by simp [q67,List.find?_cons,e]
theorem q61 {p:κ×V}{r:List (κ×V)}{k:κ}(e:¬ p.1=k):q67 (p :: r) k=q67 r k:=by simp [q67,List.find?_cons,e]
theorem qf1 (k:κ):∀ kvs:List (κ×V),(kvs.any λkv=>decide (kv.1=k))=(q67 kvs k).isSome
 | []=>rfl
 | p :: r=>by
  rw [List.any_cons]
  by_cases e:p.1=k
  ·simp only [q60 e,decide_eq_true e,Bool.true_or,Option.isSome_some]
  ·rw [q61 e,decide_eq_false e,Bool.false_or]; exact qf1 k r
theorem qE2 (k j:κ)(y:V):∀ kvs:List (κ×V),q67 (kvs.map λkv=>if kv.1=k then (kv.1,y) else kv) j=(q67 kvs j).map λx=>if j=k then y else x
 | []=>rfl
 | p :: r=>by
  have ih:=qE2 k j y r
  rw [List.map_cons]
  by_cases h:p.1=k
  ·rw [if_pos h]
   by_cases e:p.1=j
   ·rw [q60 (p:=(p.1,y)) e,q60 e,Option.map_some,if_pos (e.symm.trans h)]
   ·rw [q61 (p:=(p.1,y)) e,q61 e,ih]
  ·rw [if_neg h]
   by_cases e:p.1=j
   ·rw [q60 (p:=p) e,q60 e,Option.map_some,if_neg (λz=>h (e.trans z))]
   ·rw [q61 (p:=p) e,q61 e,ih]
theorem qx7 (k j:κ)(y:V):∀ kvs:List (κ×V),q67 kvs k=none->q67 (kvs ++ [(k,y)]) j=if j=k then some y else q67 kvs j
 | [],_=>by
  by_cases e:k=j
  ·rw [if_pos e.symm]; exact q60 (p:=(k,y)) e
  ·rw [if_neg (λz=>e z.symm)]; exact q61 (p:=(k,y)) e
 | p :: r,hn=>by
  rw [List.cons_append]
  have hk:¬ p.1=k:=λz=>by rw [q60 z] at hn; cases hn
  rw [q61 hk] at hn
  have ih:=qx7 k j y r hn
  by_cases e:p.1=j
  ·rw [q60 e,q60 e,if_neg (λz=>hk (e.trans z))]
  ·rw [q61 e,q61 e,ih]
theorem qE1 (kvs:List (κ×V))(k j:κ)(y:V):q67 (qj4 kvs k y) j=if j=k then some y else q67 kvs j:=by
 unfold qj4
 by_cases a:(kvs.any λkv=>decide (kv.1=k))=true
 ·rw [if_pos a,qE2]
  rw [qf1] at a
  by_cases e:j=k
  ·obtain ⟨x,hx⟩:=Option.isSome_iff_exists.mp a
   rw [if_pos e,e,hx,Option.map_some,if_pos rfl]
  ·rw [if_neg e]
   cases q67 kvs j with
   | none=>rfl
   | some x=>rw [Option.map_some,if_neg e]
 ·rw [if_neg a]
  refine qx7 k j y kvs ?_
  rw [qf1] at a
  cases q:q67 kvs k with
  | none=>rfl
  | some x=>rw [q] at a; exact (a rfl).elim
theorem q99 (kvs:List (κ×V))(k:κ)(v:V):(qj4 kvs k v).length<=kvs.length + 1:=by
 unfold qj4
 split
 ·rw [List.length_map]; omega
 ·rw [List.length_append,List.length_cons,List.length_nil]; omega
theorem RelO.isSome_eq {o:Option V}{u:Option Value}(r:RelO o u):o.isSome=u.isSome:=by
 cases o with
 | none=>cases u with
  | none=>rfl
  | some _=>exact (show False from r).elim
 | some _=>cases u with
  | none=>exact (show False from r).elim
  | some _=>rfl
theorem RelO.getD {o:Option V}{u:Option Value}{d:V}{d':Value}(r:RelO o u)(rd:RelV d d'):RelV (o.getD d) (u.getD d'):=by
 cases o with
 | none=>cases u with
  | none=>exact rd
  | some _=>exact (show False from r).elim
 | some _=>cases u with
  | none=>exact (show False from r).elim
  | some _=>exact r
theorem KV.val {kvs:List (κ×V)}{vs:List (κ×Value)}(r:KV kvs vs)(k:κ):RelO (q67 kvs k) (valueAt vs k):=by
 unfold KV at r
 induction r with
 | nil=>exact True.intro
 | @cons p q ps qs h t ih =>
  obtain ⟨h1,h2⟩:=h
  by_cases e:p.1=k
  ·have e':q.1=k:=h1.symm.trans e
   have b:valueAt (q :: qs) k=some q.2:=by simp [valueAt,List.find?_cons,e']
   rw [q60 e,b]; exact h2
  ·have e':¬ q.1=k:=λz=>e (h1.trans z)
   have b:valueAt (q :: qs) k=valueAt qs k:=by simp [valueAt,List.find?_cons,e']
   rw [q61 e,b]; exact ih
theorem KV.any {kvs:List (κ×V)}{vs:List (κ×Value)}(r:KV kvs vs)(k:κ):(kvs.any λkv=>decide (kv.1=k))=vs.any λkv=>decide (kv.1=k):=by
 unfold KV at r
 induction r with
 | nil=>rfl
 | cons h t ih=>rw [List.any_cons,List.any_cons,ih,h.1]
theorem KV.repl {kvs:List (κ×V)}{vs:List (κ×Value)}(r:KV kvs vs)(k:κ){y:V}{u:Value}(ry:RelV y u) :
  KV (kvs.map λkv=>if kv.1=k then (kv.1,y) else kv) (vs.map λkv=>if kv.1=k then (kv.1,u) else kv):=by
 unfold KV at r ⊢
 induction r with
 | nil=>exact .nil
 | @cons p q ps qs h t ih =>
  rw [List.map_cons,List.map_cons]
  refine .cons ?_ ih
  obtain ⟨h1,h2⟩:=h
  by_cases e:p.1=k
  ·rw [if_pos e,if_pos (h1.symm.trans e)]; exact ⟨h1,ry⟩
  ·rw [if_neg e,if_neg (λz=>e (h1.trans z))]; exact ⟨h1,h2⟩
theorem KV.put {kvs:List (κ×V)}{vs:List (κ×Value)}(r:KV kvs vs)(k:κ){y:V}{u:Value}(ry:RelV y u):KV (qj4 kvs k y) (stored vs k u):=by
 unfold qj4 stored
 rw [r.any k]
 by_cases e:(vs.any λkv=>decide (kv.1=k))=true
 ·rw [if_pos e,if_pos e]; exact r.repl k ry
 ·rw [if_neg e,if_neg e]; exact Paired.snoc r ⟨rfl,ry⟩
theorem KV.length {kvs:List (κ×V)}{vs:List (κ×Value)}(r:KV kvs vs):kvs.length=vs.length:=Paired.length r
end
theorem qK7 {P:Program}{w:World}{k:Key}{u:Value}(r:RelV (kV k) u):(q40 P w).is k u=true:=by
 cases k with
 | inl i=>obtain ⟨t,e⟩:=(show ∃ t,u=Value.int i t from r); subst e; exact qC5 P w i t
 | inr x=>obtain ⟨t,e⟩:=(show ∃ t,u=Value.str x t from r); subst e; exact qC4 P w x t
theorem qA4 {P:Program}{w:World}:∀{ks:List Key}{us:List Value},Vals (ks.map kV) us->ItemsAre (q40 P w) ks us
 | [],_,r=>by rw [List.map_nil] at r; cases r; exact .nil
 | k :: ks,_,r=>by
  rw [List.map_cons] at r
  cases r with
  | cons h t=>exact .cons (qK7 h) (qA4 t)
abbrev KT (H:Hp):List (List Key×V)->List (List Key×Addr×Value)->Prop:=Paired λp q=>p.1=q.1/\H q.2.1=some (.tup (p.1.map kV))/\RelV p.2 q.2.2
theorem KT.val {H:Hp}{kvs:List (List Key×V)}{xs:List (List Key×Addr×Value)}(r:KT H kvs xs)(k:List Key):RelO (q67 kvs k) ((atKey xs k).map (·.2)):=by
 induction r with
 | nil=>exact True.intro
 | @cons p q ps qs h t ih =>
  obtain ⟨h1,_,h2⟩:=h
  by_cases e:p.1=k
  ·have e':q.1=k:=h1.symm.trans e
   have b:atKey (q :: qs) k=some q.2:=by simp [atKey,List.find?_cons,e']
   rw [q60 e,b]; exact h2
  ·have e':¬ q.1=k:=λz=>e (h1.trans z)
   have b:atKey (q :: qs) k=atKey qs k:=by simp [atKey,List.find?_cons,e']
   rw [q61 e,b]; exact ih
theorem KT.repl {H:Hp}{kvs:List (List Key×V)}{xs:List (List Key×Addr×Value)}(r:KT H kvs xs)(k:List Key){y:V}{u:Value}(ry:RelV y u) :
  KT H (kvs.map λkv=>if kv.1=k then (kv.1,y) else kv) (xs.map (putAt k u)):=by
 induction r with
 | nil=>exact .nil
 | @cons p q ps qs h t ih =>
  rw [List.map_cons,List.map_cons]
  refine .cons ?_ ih
  obtain ⟨h1,h2,h3⟩:=h
  unfold putAt
  by_cases e:p.1=k
  ·rw [if_pos e,if_pos (h1.symm.trans e)]; exact ⟨h1,h2,ry⟩
  ·rw [if_neg e,if_neg (λz=>e (h1.trans z))]; exact ⟨h1,h2,h3⟩
theorem KT.put {H:Hp}{kvs:List (List Key×V)}{xs:List (List Key×Addr×Value)}(r:KT H kvs xs)(k:List Key){b:Addr}{y:V}{u:Value}(hb:H b=some (.tup (k.map kV)))(ry:RelV y u) :
  KT H (qj4 kvs k y) (storedH xs k b u):=by
 have e:(kvs.any λkv=>decide (kv.1=k))=(atKey xs k).isSome:=by
  rw [qf1,(r.val k).isSome_eq,Option.isSome_map]
 unfold qj4 storedH
 rw [e]
 by_cases q:(atKey xs k).isSome=true
 ·rw [if_pos q,if_pos q]; exact r.repl k ry
 ·rw [if_neg q,if_neg q]; exact Paired.snoc r ⟨rfl,hb,ry⟩
theorem KT.keeps {H H':Hp}{kvs:List (List Key×V)}{xs:List (List Key×Addr×Value)}(r:KT H kvs xs)(ht:∀ b ys,H b=some (.tup ys)->H' b=some (.tup ys)):KT H' kvs xs :=
 Paired.mapP r λ_ _ z=>⟨z.1,ht _ _ z.2.1,z.2.2⟩
section
variable {P:Program}{w:World}{H:Hp}{h:Heap}{a:Addr}
theorem rd_of {u:HO}(ok:HOk P w H h)(e:Rd H a u):ObjOk P w H h a u:=e.ok ok
theorem qL4 {kvs:List (Key×V)}(ok:HOk P w H h)(e:Rd H a (.dK kvs)):kvs.length<=sizeLine/\(a == sysModules)=false/\∃ vs,KV kvs vs/\h.DictOf (q40 P w) a vs :=
 show ObjOk P w H h a (.dK kvs) from rd_of ok e
theorem z52 {kvs:List (Key×V)}(ok:HOk P w H h)(e:H a=some (.dK kvs)):kvs.length<=sizeLine/\(a == sysModules)=false/\∃ vs,KV kvs vs/\h.DictOf (q40 P w) a vs:=qL4 ok (.inl e)
theorem qA3 {ks:List Key}(ok:HOk P w H h)(e:H a=some (.tup (ks.map kV))):(tupleKind (q40 P w)).is h ks a:=by
 obtain ⟨_,its,r,o,h1,h2,n,h3⟩:=(show ObjOk P w H h a (.tup (ks.map kV)) from ok a _ e)
 exact ⟨o,its.toArray,n,h1,h2,h3,by simpa using qA4 r⟩
theorem qL3 {kvs:List (List Key×V)}(ok:HOk P w H h)(e:Rd H a (.dT kvs)):kvs.length<=sizeLine/\(a == sysModules)=false /\
  ∃ xs,KT H kvs xs/\h.DictOfH (tupleKind (q40 P w)) a xs:=by
 obtain ⟨z,y,xs,r,o,es,ep,h1,h2,h3,h4,h5⟩:=(show ObjOk P w H h a (.dT kvs) from rd_of ok e)
 refine ⟨z,y,xs,r,o,es,ep,h1,h2,h3,h4,λx hx=>?_,h5⟩
 have all:∀{l:List (List Key×V)} {m:List (List Key×Addr×Value)},KT H l m->∀ x∈m,(tupleKind (q40 P w)).is h x.1 x.2.1:=by
  intro l m q
  induction q with
  | nil=>intro x hx; exact nomatch hx
  | @cons p q ps qs hq t ih =>
   intro x hx
   rcases List.mem_cons.mp hx with e | hx
   ·subst e
    exact qA3 ok (by rw [<- hq.1]; exact hq.2.1)
   ·exact ih x hx
 exact all r x hx
theorem dt_of {kvs:List (List Key×V)}(ok:HOk P w H h)(e:H a=some (.dT kvs)):kvs.length<=sizeLine/\(a == sysModules)=false /\
  ∃ xs,KT H kvs xs/\h.DictOfH (tupleKind (q40 P w)) a xs:=qL3 ok (.inl e)
end
def DGet (H:Hp)(a:Addr)(y:V)(r:Option V):Prop :=
 (∃ kvs k,Rd H a (.dK kvs)/\y=kV k/\r=q67 kvs k)∨∃ kvs k b,Rd H a (.dT kvs)/\y=.ref b/\H b=some (.tup (k.map kV))/\r=q67 kvs k
def DPut (H:Hp)(a:Addr)(y v:V)(H':Hp):Prop :=
 (∃ kvs k,H a=some (.dK kvs)/\y=kV k/\kvs.length < sizeLine/\H'=upd H a (.dK (qj4 kvs k v))) ∨
 ∃ kvs k b,H a=some (.dT kvs)/\y=.ref b/\H b=some (.tup (k.map kV))/\kvs.length < sizeLine/\H'=upd H a (.dT (qj4 kvs k v))
theorem DGet.k {H:Hp}{a:Addr}{kvs:List (Key×V)}{k:Key}(e:H a=some (.dK kvs)):DGet H a (kV k) (q67 kvs k):=.inl ⟨kvs,k,.inl e,rfl,rfl⟩
theorem DGet.t {H:Hp}{a b:Addr}{kvs:List (List Key×V)}{k:List Key}(e:H a=some (.dT kvs))(eb:H b=some (.tup (k.map kV))):DGet H a (.ref b) (q67 kvs k):=.inr ⟨kvs,k,b,.inl e,rfl,eb,rfl⟩
theorem DPut.k {H:Hp}{a:Addr}{kvs:List (Key×V)}{k:Key}{v:V}(e:H a=some (.dK kvs))(hl:kvs.length < sizeLine):DPut H a (kV k) v (upd H a (.dK (qj4 kvs k v))):=.inl ⟨kvs,k,e,rfl,hl,rfl⟩
theorem DPut.t {H:Hp}{a b:Addr}{kvs:List (List Key×V)}{k:List Key}{v:V}(e:H a=some (.dT kvs))(eb:H b=some (.tup (k.map kV)))(hl:kvs.length < sizeLine) :
  DPut H a (.ref b) v (upd H a (.dT (qj4 kvs k v))):=.inr ⟨kvs,k,b,e,rfl,eb,hl,rfl⟩
section
variable {X:Cx}{pins:List (Addr×Obj)}{σ:St}{H:Hp}{s:Shared}{a:Addr}{y v:V}{u r:Value}{o:Option V}{A:Around}{E:Value->Shared->Prop}
theorem Inv.big (I:Inv X pins σ H s):sysModules < s.heap.objs.size:=by
 have h:mainGlobals < s.heap.objs.size:=(I.mod.glob.keeps I.bk).lt
 exact Nat.lt_trans (by decide) h
theorem qV6 {Q:Value->Shared->Prop}(hu:A.units + 1 < cLine)(I:Inv X pins σ H s)(g:DGet H a y (some v))(ry:RelV y u)(h:∀ w' s',Inv X pins σ H s'->RelV v w'->Q w' s') :
  wpAny (model X.prog X.w) A (getItem (.ref a) u) Q E s:=by
 rcases g with ⟨kvs,k,e,ey,l⟩ | ⟨kvs,k,b,e,ey,eb,l⟩
 ·subst ey
  obtain ⟨z,hd,vs,rel,dd⟩:=qL4 I.hok e
  obtain ⟨w',hw,rw'⟩:=RelO.some_of (v:=v) (o:=valueAt vs k) (by rw [l]; exact rel.val k)
  exact wpAny_getItem_of (qK7 ry) dd.mapOf hw (h w' _ (I.tok _) rw')
 ·subst ey
  cases (show u=Value.ref b from ry)
  obtain ⟨z,hd,xs,rel,dd⟩:=qL3 I.hok e
  obtain ⟨w',hw,rw'⟩:=RelO.some_of (v:=v) (o:=(atKey xs k).map (·.2)) (by rw [l]; exact rel.val k)
  obtain ⟨p,hp,hp2⟩:=Option.map_eq_some_iff.mp hw
  refine wpAny_getItem_heap (tupleKind_room_in1 hu) (qA3 I.hok eb) dd hp ?_
  rw [hp2]
  exact h w' _ (I.tok _) rw'
theorem d_notIn {Q:Value->Shared->Prop}(hu:A.units + 1 < cLine)(I:Inv X pins σ H s)(g:DGet H a y o)(ry:RelV y u)(h:∀ s',Inv X pins σ H s'->Q (.bool (!o.isSome)) s') :
  wpAny (model X.prog X.w) A (compareOp .NotIn u (.ref a)) Q E s:=by
 rcases g with ⟨kvs,k,e,ey,l⟩ | ⟨kvs,k,b,e,ey,eb,l⟩
 ·subst ey
  obtain ⟨z,hd,vs,rel,dd⟩:=qL4 I.hok e
  refine wpAny_notIn_of (qK7 ry) hd dd.mapOf ?_
  rw [<- (rel.val k).isSome_eq,<- l]
  exact h _ (I.tok _)
 ·subst ey
  cases (show u=Value.ref b from ry)
  obtain ⟨z,hd,xs,rel,dd⟩:=qL3 I.hok e
  refine wpAny_notIn_heap (tupleKind_room_in1 hu) (qA3 I.hok eb) hd dd ?_
  have q:=(rel.val k).isSome_eq
  rw [Option.isSome_map] at q
  rw [<- q,<- l]
  exact h _ (I.tok _)
theorem qD1 {h':Heap}{t':Nat}{ob:HO}(I:Inv X pins σ H s)(mu:Mut (H a))(hs:Heap.SameBut a s.heap h')(he:∃ q,h'.get? a=some q)(new:ObjOk X.prog X.w (upd H a ob) h' a ob) :
  Inv X pins σ (upd H a ob) { s with heap:=h',toks:=t' } :=
 I.write (x:=a) (e:=a) mu (.inl rfl) (λb q hb z=>(hs.2 b hb).trans z) he new
theorem qU9 {P:Program}{w:World}{H':Hp}{h':Heap}{kvs:List (Key×V)}{vs:List (Key×Value)}(z:kvs.length<=sizeLine)(hd:(a == sysModules)=false)(rel:KV kvs vs)(dd:h'.DictOf (q40 P w) a vs) :
  ObjOk P w H' h' a (.dK kvs):=⟨z,hd,vs,rel,dd⟩
theorem qV5 {H':Hp}{Q:Unit->Shared->Prop}(hu:A.units + 1 < cLine)(I:Inv X pins σ H s)(g:DPut H a y v H')(ry:RelV y u)(rv:RelV v r)(h:∀ s',Inv X pins σ H' s'->Q () s') :
  wpAny (model X.prog X.w) A (setItem (.ref a) u r) Q E s:=by
 rcases g with ⟨kvs,k,e,ey,l,eH⟩ | ⟨kvs,k,b,e,ey,eb,l,eH⟩
 ·subst ey eH
  obtain ⟨z,hd,vs,rel,dd⟩:=z52 I.hok e
  have hz:vs.length<=sizeLine:=by rw [<- rel.length]; exact z
  have hl:(qj4 kvs k v).length<=sizeLine:=by have:=q99 kvs k v; omega
  refine wpAny_setItem_pairs (hsz:=hz) (qK7 ry) dd λh' dd' hs=>h _ ?_
  have he:∃ q,h'.get? a=some q:=let ⟨q,_,_,hq,_⟩:=dd'; ⟨q,hq⟩
  exact qD1 I (by rw [e]; exact True.intro) hs he (qU9 hl hd (rel.put k rv) dd')
 ·subst ey eH
  cases (show u=Value.ref b from ry)
  obtain ⟨z,hd,xs,rel,dd⟩:=dt_of I.hok e
  have hz:xs.length<=sizeLine:=by rw [<- Paired.length rel]; exact z
  have hl:(qj4 kvs k v).length<=sizeLine:=by have:=q99 kvs k v; omega
  refine wpAny_setItem_heap (hsz:=hz) (tupleKind_room_in1 hu) (qA3 I.hok eb) dd λh' dd' hs=>h _ ?_
  obtain ⟨q,es,ep,hq,h2,h3,h4,_,h5⟩:=dd'
  refine qD1 I (by rw [e]; exact True.intro) hs ⟨q,hq⟩ ⟨hl,hd,_,(rel.put k eb rv).keeps λc ys ec=>?_,q,es,ep,hq,h2,h3,h4,h5⟩
  rw [q07 (qC3 ec e (λz=>nomatch z))]
  exact ec
end
section
variable {X:Cx}{pins:List (Addr×Obj)}{σ:St}{H:Hp}{s:Shared}{a:Addr}{kvs:List (Key×V)}{k:Key}{u:Value}{A:Around}{E:Value->Shared->Prop}
end
def NoSl (i:Expr):Prop:=∀ ov iv,subscripted i false ov iv=operate [ov,iv] (getItem ov iv)
theorem subD_of {prog:Program}{w:World}{A:Around}{E:Value->Shared->Prop}{s:Shared}{env:Env}{value slice:Expr}{pos:Pos}{T id:String}{Q:Value->Shared->Prop}
  (hl:typeLookup (.type T) "__getitem__" = pure (some (.builtin id))) (hs:NoSl slice)
  (h:wpAny (model prog w) A (eval value env) (λo s₁=>wpAny (model prog w) A (eval slice env) (λi s₂=>s₂.TypeIs o T/\wpAny (model prog w) A (getItem o i) Q E s₂) E s₁) E s) :
  wpAny (model prog w) A (eval (.Subscript value slice pos) env) Q E s:=by
 refine Subscript_ (wpAny_mono h (λo s₁ h₁=>wpAny_mono h₁ (λi s₂ h₂=>?_) λ_ _ x=>x) λ_ _ x=>x)
 obtain ⟨hT,h₂⟩:=h₂
 unfold subscriptTail
 refine wpAny_bind ?_
 rw [getitemInPython_of_ne hT.not_modules]
 refine wpAny_bind (wpAny_specialOf hT hl ?_)
 have fin:wpAny (model prog w) A (subscripted slice false o i) (λr s₃=>wpAny (model prog w) A (letTemporaryGo value o r >>= λ_=>pure r) Q E s₃) E s₂:=by
  rw [hs o i]
  exact wpAny_operating (wpAny_mono h₂ (λr s₃ h₃=>wpAny_bind (wpAny_letTemporaryGo (wpAny_pure h₃))) λ_ _ x=>x)
 first
  | exact wpAny_pure (wpAny_bind fin)
  | exact wpAny_bind (wpAny_pure (wpAny_bind fin))
  | exact wpAny_bind fin
theorem qD0 {X:Cx}{pins:List (Addr×Obj)}{σ:St}{H:Hp}{s:Shared}{a:Addr}{y:V}{o:Option V}(I:Inv X pins σ H s)(g:DGet H a y o):s.TypeIs (.ref a) "dict" := by
 rcases g with ⟨kvs,k,e,_,_⟩ | ⟨kvs,k,b,e,_,_,_⟩
 ·obtain ⟨_,_,vs,_,dd⟩:=qL4 I.hok e
  exact dd.typeIs
 ·obtain ⟨_,_,xs,_,dd⟩:=qL3 I.hok e
  exact dd.typeIs
def tDGet (td ty:TE):TE:=λσ H Q=>td σ H λx H1=>ty σ H1 λy H2=>∃ a v,x=.ref a/\DGet H2 a y (some v)/\Q v H2
def tDNotIn (ty td:TE):TE:=λσ H Q=>ty σ H λy H1=>td σ H1 λx H2=>∃ a o,x=.ref a/\DGet H2 a y o/\Q (.bl (!o.isSome)) H2
def sDPut (td ty tv:TE):TS:=λD σ H=>tv σ H λv H1=>td σ H1 λx H2=>ty σ H2 λy H3=>∃ a H4,x=.ref a/\DPut H3 a y v H4/\D.nx σ H4
section
variable {X:Cx}{o i e value:Expr}{pos pos' tpos:Pos}{td ty tv:TE}
theorem pe_dget (hu:X.A.units + 1 < cLine)(ho:PE X o td)(hi:PE X i ty)(hs:NoSl i):PE X (.Subscript o i pos) (tDGet td ty):=by
 intro pins s σ H Q I h
 refine subD_of PySem.F.slot_dict_getitem.lookup hs (thn (ho pins s σ H _ I h) λu s1 ⟨x,H1,I1,rx,q1⟩=>thn (hi pins s1 σ H1 _ I1 q1) λiv s2 ⟨y,H2,I2,ry,a,v,ex,g,q2⟩=>?_)
 subst ex
 obtain rfl:u=Value.ref a:=rx
 exact ⟨qD0 I2 g,qV6 hu I2 g ry λw' s3 I3 rw'=>⟨v,H2,I3,rw',q2⟩⟩
theorem qz4 (hu:X.A.units + 1 < cLine)(hi:PE X i ty)(ho:PE X o td):PC X .NotIn i o (tDNotIn ty td):=by
 intro pins s σ H Q I h
 refine thn (hi pins s σ H _ I h) λiv s1 ⟨y,H1,I1,ry,q1⟩=>thn (ho pins s1 σ H1 _ I1 q1) λu s2 ⟨x,H2,I2,rx,a,ov,ex,g,q2⟩=>?_
 subst ex
 obtain rfl:u=Value.ref a:=rx
 exact d_notIn hu I2 g ry λs3 I3=>⟨.bl (!ov.isSome),H2,I3,rfl,q2⟩
theorem qC0 (hu:X.A.units + 1 < cLine)(ho:PE X o td)(hi:PE X i ty)(hv:PE X value tv)(hs:swapsWith value (some (.Subscript o i pos')) pos.line X.env=pure false) :
  PS X (.Assign [.Subscript o i pos'] value pos) (sDPut td ty tv):=by
 intro pins s σ H D I h
 refine wpAny_Assign_Subscript (thn (hv pins s σ H _ I h) λr s1 ⟨v,H1,I1,rv,q1⟩=>thn (ho pins s1 σ H1 _ I1 q1) λu s2 ⟨x,H2,I2,rx,q2⟩=>thn (hi pins s2 σ H2 _ I2 q2) λiv s3 ⟨y,H3,I3,ry,a,H4,ex,g,q3⟩=>?_) hs
 subst ex
 obtain rfl:u=Value.ref a:=rx
 exact qV5 hu I3 g ry rv λs4 I4=>⟨σ,H4,I4,q3⟩
end
theorem z53 {P:Program}{w:World}{H:Hp}(h:Heap)(hb:sysModules < h.objs.size):ObjOk P w H (h.push { cls:=.type "dict",data:=.dict #[] }) h.objs.size (.dK []) :=
 ⟨Nat.zero_le _,beq_eq_false_iff_ne.mpr (Ne.symm (Nat.ne_of_lt hb)),[],.nil,Heap.DictOf.new h⟩
theorem z50 {P:Program}{w:World}{H:Hp}(h:Heap)(hb:sysModules < h.objs.size):ObjOk P w H (h.push { cls:=.type "dict",data:=.dict #[] }) h.objs.size (.dT []) :=
 ⟨Nat.zero_le _,beq_eq_false_iff_ne.mpr (Ne.symm (Nat.ne_of_lt hb)),[],.nil,_,#[],0,Heap.get?_push_size _ rfl,⟨rfl,rfl,rfl⟩,rfl,rfl,List.nodup_nil⟩
def tDNewK:TE:=λ_ H Q=>∀ p,H p=none->Q (.ref p) (upd H p (.dK []))
def tDNewT:TE:=λ_ H Q=>∀ p,H p=none->Q (.ref p) (upd H p (.dT []))
section
variable {X:Cx}{pos:Pos}
theorem qF7:PE X (.Dict [] [] pos) tDNewK:=λpins s σ H Q I h =>
 wpAny_Dict_empty ⟨.ref s.heap.objs.size,_,I.laid (a:=s.heap.objs.size) (o:=.dK []) (t':=s.toks) (λ_ _ q=>Heap.get?_push_of_some _ q) (Nat.le_refl _) (z53 s.heap I.big),rfl,h _ (I.hok.fresh (Nat.le_refl _))⟩
theorem qF6:PE X (.Dict [] [] pos) tDNewT:=λpins s σ H Q I h =>
 wpAny_Dict_empty ⟨.ref s.heap.objs.size,_,I.laid (a:=s.heap.objs.size) (o:=.dT []) (t':=s.toks) (λ_ _ q=>Heap.get?_push_of_some _ q) (Nat.le_refl _) (z50 s.heap I.big),rfl,h _ (I.hok.fresh (Nat.le_refl _))⟩
end
def qd8 (kvs more:List (Key×V)):List (Key×V):=more.foldl (λacc kv=>qj4 acc kv.1 kv.2) kvs
theorem KV.merge:∀{more:List (Key×V)}{rs:List (Key×Value)}{kvs:List (Key×V)}{vs:List (Key×Value)},KV more rs->KV kvs vs->KV (qd8 kvs more) (merged vs rs):=by
 intro more rs kvs vs r
 unfold KV at r
 induction r generalizing kvs vs with
 | nil=>intro q; exact q
 | @cons p q ps qs h t ih =>
  intro r0
  have e:KV (qj4 kvs p.1 p.2) (stored vs q.1 q.2):=by
   have:=r0.put p.1 h.2
   rw [<- h.1]; exact this
  exact ih e
structure M1 (X:Cx) (o:Expr) (m:Str) (apos:Pos) (e:Expr) (cpos:Pos):Prop where
 base:attributeBase o m X.env (eval o X.env)=eval o X.env
 few:((backTo cpos (starEach [e] X.env)).all (λx=>!x.1) && (backToKw cpos (keywordEach [] X.env)).all (λx=>x.1.isSome)
  && decide (([e]:List Expr).length + ([]:List Keyword).length + (if ([]:List Keyword).isEmpty then 0 else 1) < 30))=true
 line:(apos.endLine == cpos.line)=true
 trees:backTo cpos (starEach [e] X.env)=[(false,eval e X.env)]
structure M2 (X:Cx) (o:Expr) (m:Str) (apos:Pos) (e f:Expr) (cpos:Pos):Prop where
 base:attributeBase o m X.env (eval o X.env)=eval o X.env
 few:((backTo cpos (starEach [e,f] X.env)).all (λx=>!x.1) && (backToKw cpos (keywordEach [] X.env)).all (λx=>x.1.isSome)
  && decide (([e,f]:List Expr).length + ([]:List Keyword).length + (if ([]:List Keyword).isEmpty then 0 else 1) < 30))=true
 line:(apos.endLine == cpos.line)=true
 trees:backTo cpos (starEach [e,f] X.env)=[(false,eval e X.env),(false,eval f X.env)]
def IsD (H:Hp)(a:Addr):Prop:=(∃ kvs,Rd H a (.dK kvs))∨∃ kvs,Rd H a (.dT kvs)
theorem isD_at {X:Cx}{pins:List (Addr×Obj)}{σ:St}{H:Hp}{s:Shared}{a:Addr}(I:Inv X pins σ H s)(d:IsD H a) :
  s.TypeIs (.ref a) "dict" /\ (∀ b,Value.ref a=.ref b->∃ ob,s.heap.get? b=some ob/\ob.dict=none)/\(a == sysModules)=false:=by
 rcases d with ⟨kvs,e⟩ | ⟨kvs,e⟩
 ·obtain ⟨_,hd,vs,_,dd⟩:=qL4 I.hok e
  refine ⟨dd.typeIs,λb q=>?_,hd⟩
  cases q
  obtain ⟨ob,_,_,h1,h2,_⟩:=dd
  exact ⟨ob,h1,h2.2.1⟩
 ·obtain ⟨_,hd,xs,_,dd⟩:=qL3 I.hok e
  refine ⟨dd.typeIs,λb q=>?_,hd⟩
  cases q
  obtain ⟨ob,_,_,h1,h2,_⟩:=dd
  exact ⟨ob,h1,h2.2.1⟩
section
variable {X:Cx}{pins:List (Addr×Obj)}{σ:St}{H:Hp}{s:Shared}{a:Addr}{y d:V}{u r:Value}{o:Option V}{A:Around}{E:Value->Shared->Prop}
theorem d_get2 {Q:Value->Shared->Prop}(hu:A.units + 1 < cLine)(I:Inv X pins σ H s)(g:DGet H a y o)(ry:RelV y u)(rd:RelV d r)(h:∀ w' s',Inv X pins σ H s'->RelV (o.getD d) w'->Q w' s') :
  wpAny (model X.prog X.w) A (call (.builtin "dict.get") [.ref a,u,r]) Q E s:=by
 rcases g with ⟨kvs,k,e,ey,l⟩ | ⟨kvs,k,b,e,ey,eb,l⟩
 ·subst ey
  obtain ⟨z,hd,vs,rel,dd⟩:=qL4 I.hok e
  refine call_meetsIn PySem.F.slot_dict_get dd.typeIs PySem.F.entry_dict_get (PySem.F.args_dict_get_3 _ _ _) (meets_dict_get_default (q40 X.prog X.w) a (qK7 ry) hd r) ⟨_,dd.mapOf,h _ _ (I.tok _) ?_⟩
  rw [l]
  exact (rel.val k).getD rd
 ·subst ey
  cases (show u=Value.ref b from ry)
  obtain ⟨z,hd,xs,rel,dd⟩:=qL3 I.hok e
  refine call_meetsIn PySem.F.slot_dict_get dd.typeIs PySem.F.entry_dict_get (PySem.F.args_dict_get_3 _ _ _) (meetsH_dict_get_default (tupleKind (q40 X.prog X.w)) a b hd r) ⟨tupleKind_room_in1 hu,k,xs,qA3 I.hok eb,dd,h _ _ (I.tok _) ?_⟩
  rw [l]
  exact (rel.val k).getD rd
end
def tDGet2 (td ty tx:TE):TE:=λσ H Q=>td σ H λx H1=>∃ a,x=.ref a/\IsD H1 a/\ty σ H1 λy H2=>tx σ H2 λz H3=>∃ o,DGet H3 a y o/\Q (o.getD z) H3
section
variable {X:Cx}{o e f:Expr}{apos cpos:Pos}{td ty tx:TE}
theorem qv0 (hu:X.A.units + 1 < cLine) (ho:PE X o td) (he:PE X e ty) (hf:PE X f tx) (m:M2 X o "get" apos e f cpos):PE X (.Call (.Attribute o "get" apos) [e,f] [] cpos) (tDGet2 td ty tx):=by
 intro pins s σ H Q I h
 refine wpAny_Call_method m.base m.few m.line PySem.F.plainAttrs_dict PySem.F.slot_dict_get PySem.F.type_dict_get (thn (ho pins s σ H _ I h) λu s1 ⟨x,H1,I1,rx,a,ex,d,q1⟩=>?_)
 subst ex
 obtain rfl:u=Value.ref a:=rx
 obtain ⟨t1,t2,_⟩:=isD_at I1 d
 refine ⟨t1,t2,?_⟩
 rw [m.trees]
 refine Calls.callWith_builtin rfl (Calls.evalArgs_plain (Calls.spliced_cons (thn (he pins s1 σ H1 _ I1 q1) λiv s2 ⟨y,H2,I2,ry,q2⟩ =>
  Calls.spliced_cons (thn (hf pins s2 σ H2 _ I2 q2) λfv s3 ⟨z,H3,I3,rz,ov,g,q3⟩=>Calls.spliced_nil ?_))))
 exact d_get2 hu I3 g ry rz λw' s4 I4 rw'=>⟨_,H3,I4,rw',q3⟩
end
section
variable {X:Cx}{pins:List (Addr×Obj)}{σ:St}{H:Hp}{s:Shared}{a:Addr}{kvs:List (Key×V)}{A:Around}{E:Value->Shared->Prop}
end
section
variable {X:Cx}{pins:List (Addr×Obj)}{σ:St}{H:Hp}{s:Shared}{a:Addr}{y:V}{u:Value}{A:Around}{E:Value->Shared->Prop}
end
end L2
namespace Att
open PySem PySem.W PySem.Calls PyProof.Rows
theorem qq2 {P:Params}{h:Heap}:∀(ns:List Int) (vs:List Value),WellAll P h vs (ns.map WData.int)->IntsAre vs ns:=by
 intro ns
 induction ns with
 | nil =>
  intro vs w
  rw [List.map_nil] at w
  cases w
  exact .nil
 | cons n ns ih =>
  intro vs w
  rw [List.map_cons] at w
  cases w with
  | cons a b =>
   cases a
   exact .cons _ _ (ih _ b)
theorem qO7 {l:OpenLaw}{n:Nat}(hn:l.most=some n){P:Params}{h:Heap}{args:List WData}{vals:List Value}
  (hpre:l.row.toRowW.claim.pre args=true) (hwl:WellAll P h vals args) :
  ∃ a vs ns,vals=[Value.ref a]/\args=[WData.list (ns.map WData.int)]/\h.get? a=some { cls:=.type "list",data:=.seq vs.toArray }/\IntsAre vs ns/\ns.length<=n:=by
 have hsh:WShape.hasAll [] args [.list .int]=true:=(pre_splitW hpre).1
 have hc:l.pre.holds [] { args:=args }=true:=(pre_splitW hpre).2
 obtain ⟨d,r,rfl,h1,h2⟩:=hasAllW_cons hsh
 obtain rfl:=hasAllW_nil h2
 obtain ⟨xs,rfl,h3⟩:=hasW_list h1
 obtain ⟨ns,rfl⟩:=items_int h3
 have hlen:ns.length<=n:=by
  unfold OpenLaw.pre at hc
  have h4:(WTm.not (.lt (.lit (.int (n:Int))) (.len (.arg 0)))).holds [] { args:=[.list (ns.map .int)] }=true:=by
   have h4:=(holds_andW hc).1
   rw [hn] at h4
   exact h4
  have h5:=condW_of h4 (w_not (w_lt w_lit (w_len_list (w_arg rfl))))
  rw [List.length_map] at h5
  refine Nat.le_of_not_lt λq=>?_
  have q':(n:Int) < ((ns.length:Nat):Int):=by omega
  first
   | (rw [decide_eq_true q'] at h5; exact absurd h5 (by decide))
   | (simp at h5; omega)
 cases hwl with
 | cons w1 w2 =>
  cases w2
  cases w1 with
  | list ho hall=>exact ⟨_,_,ns,rfl,rfl,ho,qq2 ns _ hall,hlen⟩
theorem qP8 (l:OpenLaw)(args:List WData):l.row.toRowW.claim.post args (.bool true) args=true :=
 postW_of (r:=l.row.toRowW) (X:=(true == true))
  (show WShape.has [] (.bool true) .bool=true by first | rfl | decide | simp [WShape.has,WShape.arms,WShape.armsAll])
  (show (WTm.eq .res (.lit (.bool true))).value [] { args:=args,res:=some (.bool true),after:=args }=some (.bool (true == true)) from w_eq_bool (w_res rfl) w_lit) rfl
theorem attach_call {l:OpenLaw}{n:Nat}{q:Program}{loose:List Str}{XP:(Str->Option Value)->Heap->Prop}{YP:World->Heap->Prop}{d:DefRec}
  (hn:l.most=some n) (hdf:d.params.defaults=[])
  (call:∀(w:World) (s₀ s₁:Shared) (mg mb:Str->Option Value) (fa:Addr) (o:Obj) (pm cd doc:Value) (a:Addr) (vs:List Value) (ns:List Int),
   Ground q loose [] XP w s₀ mg mb s₁.heap->YP w s₁.heap ->
   s₁.heap.get? fa=some o->o.data=.func (docDef d.name d.params d.body d.scope pm cd doc)->s₁.heap.CodeRec cd d.name->mg d.name=some (.ref fa) ->
   s₁.heap.get? a=some { cls:=.type "list",data:=.seq vs.toArray }->IntsAre vs ns->ns.length<=n->s₁.gens = #[] ->
   codeAny (model l.prog w) callerA (.call (.ref fa) ⟨[.ref a],[]⟩) (λr s'=>r=.ok (.ret (.bool true))/\OldK s₁.heap s'.heap/\s'.os=s₁.os/\AllBare s'.gens) s₁) :
  WalkO q loose XP YP l.row.toRowW d [] (λf vs=>PySem.call f vs):=by
 intro w s₀ s₁ mg mb G Y fa o pm cd doc dV kV ho hd hcd hD hmg hg args vals as hpre hlay hrd hwl hlo
 obtain rfl:dV=.none:=Dflts.none hD hdf
 obtain rfl:kV=.none:=Dflts.noKw hD
 obtain ⟨a,vs,ns,rfl,rfl,hobj,hints,hlen⟩:=qO7 hn hpre hwl
 refine enter_call (codeAny_mono (call w s₀ s₁ mg mb fa o pm cd doc a vs ns G Y ho (fd_plain hd) hcd hmg hobj hints hlen hg) λr s' hq=>?_)
 obtain ⟨rfl,h2,h3,h4⟩:=hq
 exact ⟨.inl ⟨.bool true,.bool true,[],rfl,λ_=>rfl,.bool true,qP8 l _,λ_=>⟨List.Pairwise.nil,λ_ hm=>(nomatch hm)⟩⟩,h2,h3,h4⟩
section
variable {prog:Program}{w:World}{A:Around}{E:Value->Shared->Prop}{s:Shared}{K:Frag}
end
end Att
namespace L2
open PySem PySem.Spec PyProof.Rows
theorem qx6:∀{vs:List Value}{ns:List Int},IntsAre vs ns->Vals (ns.map V.int) vs
 | _,_,.nil=>.nil
 | _,_,.cons n t h=>.cons ⟨t,rfl⟩ (qx6 h)
def qa0 (s:Stmt)(j:Nat):Stmt:=match s with
 | .ClassDef _ _ _ body _ _ _ _ _ _ _=>body.getD j (.Pass ⟨0,0,0,0⟩)
 | _=>.Pass ⟨0,0,0,0⟩
def q10 (s:Stmt):Arguments:=match s with
 | .FunctionDef _ a _ _ _ _ _ _ _ _=>a
 | _=>{ posonlyargs:=[],args:=[],vararg:=none,kwonlyargs:=[],kw_defaults:=[],kwarg:=none,defaults:=[] }
def q08 (s:Stmt):List Stmt:=match s with
 | .FunctionDef _ _ b _ _ _ _ _ _ _=>b
 | _=>[]
def q02 (s:Stmt):Scope:=match s with
 | .FunctionDef _ _ _ _ _ _ sc _ _ _=>sc
 | _=>{ kind:=.function,names:=[],isGenerator:=false,isCoroutine:=false }
abbrev E0:XK:=λ_ _ _=>False
structure Fun (K:PySem.W.Frag) (x qual:Str) (st:Stmt) (f:Addr) (fd:FuncData):Prop where
 ex:∃(oc:Value) (od:Option Addr) (kV doc pm:Value) (an:Option Addr) (cdv ct:Value) (osl:Array (Option Value)),
  fd=PySem.W.fnOf x qual (q10 st) (q08 st) (q02 st) .none kV doc pm an cdv ct/\K.lookup f=some ⟨oc,od,.func fd,osl⟩/\PySem.W.codeIn K cdv qual=true
 kp:PySem.W.keepIn K (.ref f)=true
section
variable {P:Program}{w:World}{K:PySem.W.Frag}{mg:Str->Option Value}{base:Heap}
theorem Fun.binds {x qual:Str}{st:Stmt}{f:Addr}{fd:FuncData}{ps:List Str}(F:Fun K x qual st f fd)
  (h:∀(kV doc pm:Value) (an:Option Addr) (cdv ct:Value) (us:List Value),us.length=ps.length->bindArgs (PySem.W.fnOf x qual (q10 st) (q08 st) (q02 st) .none kV doc pm an cdv ct) ⟨us,[]⟩=pure (ps.zip us)):Binds K fd ps []:=by
 obtain ⟨oc,od,kV,doc,pm,an,cdv,ct,osl,rfl,lk,hcd⟩:=F.ex
 exact .all (h kV doc pm an cdv ct)
theorem qe0 {x qual:Str}{st:Stmt}{f:Addr}{oc:Value}{od an:Option Addr}{osl:Array (Option Value)}{kV doc pm cdv ct:Value}(l:K.lookup f=some ⟨oc,od,.func (PySem.W.fnOf x qual (q10 st) (q08 st) (q02 st) .none kV doc pm an cdv ct),osl⟩)
  (c:PySem.W.codeIn K cdv qual=true) (k:PySem.W.keepIn K (.ref f)=true):Fun K x qual st f (PySem.W.fnOf x qual (q10 st) (q08 st) (q02 st) .none kV doc pm an cdv ct):=⟨⟨oc,od,kV,doc,pm,an,cdv,ct,osl,rfl,l,c⟩,k⟩
end
theorem qO6 {n:Nat}(h:n<=1000):n < sizeLine:=Nat.lt_of_le_of_lt h (by decide)
section
variable {X:Cx}
theorem pv (i:Nat) {x:Str}{pos:Pos}(hN:X.N[i]? = some x:=by rfl) (hv:Vis X.env.scope x:=by first | exact Or.inl rfl | exact Or.inr (Or.inl rfl) | exact Or.inr (Or.inr rfl)) (hd:(x == ("__debug__" : Str))=false:=by decide)
  (hcd:(x == ("__classdict__" : Str))=false:=by decide):PE X (.Name x pos) (qE8 i):=z78 hN hv hd hcd
end
theorem q30 {A B:Prop}(h:B):if false=true then A else B:=by
 rw [if_neg Bool.false_ne_true]
 exact h
theorem q48 {A B:Prop}(h:A):if true=true then A else B:=by
 rw [if_pos rfl]
 exact h
theorem qd4 {c A B:Prop}[Decidable c](h1:c->A)(h2:¬ c->B):if c then A else B:=by
 by_cases h:c
 ·rw [if_pos h]
  exact h1 h
 ·rw [if_neg h]
  exact h2 h
def Same (H H':Hp):Prop:=∀ b o,H b=some o->H' b=some o
theorem Same.refl (H:Hp):Same H H:=λ_ _ h=>h
theorem Same.seq {K:PySem.W.Frag}{H H':Hp}{a:Addr}{xs:List V}(e:Same H H')(h:SqL K H a xs):SqL K H' a xs:=by
 rcases h with (h | ⟨o,h⟩) | h
 ·exact .inl (.inl (e _ _ h))
 ·exact .inl (.inr ⟨o,e _ _ h⟩)
 ·exact .inr h
section
variable {κ:Type} [DecidableEq κ]
theorem qY1 {kvs:List (κ×V)}{k:κ}(h:q67 kvs k=none):¬ k∈kvs.map (·.1):=by
 intro m
 obtain ⟨p,hp,e⟩:=List.mem_map.mp m
 have q:(kvs.any λkv=>decide (kv.1=k))=true:=List.any_eq_true.mpr ⟨p,hp,decide_eq_true e⟩
 rw [qf1,h] at q
 exact absurd q (by simp)
theorem valV_in {kvs:List (κ×V)}{k:κ}{v:V}(h:q67 kvs k=some v):k∈kvs.map (·.1):=by
 have q:(kvs.any λkv=>decide (kv.1=k))=true:=by
  rw [qf1,h]
  all_goals rfl
 obtain ⟨p,hp,e⟩:=List.any_eq_true.mp q
 exact List.mem_map.mpr ⟨p,hp,of_decide_eq_true e⟩
end
def z55 (env:Env):List (Str×NameKind)->List (Str×Addr)->List (Str×Addr)
 | [],cs=>cs
 | (n,k) :: r,cs=>z55 env r (if k=NameKind.free then (n,(env.cells.lookup n).getD 0) :: cs else cs)
def qB4 (scope:Scope)(env:Env):List (Str×Addr):=z55 env scope.names []
def qU5 (scope:Scope)(env:Env):Bool:=scope.names.all λp=>p.2 != NameKind.free || (env.kindOf p.1 == some NameKind.cell || env.kindOf p.1 == some NameKind.free)
theorem qw9 {env:Env}:∀(l:List (Str×NameKind)) (cs:List (Str×Addr)),(∀ p∈l,p.2=NameKind.free->∃ c,env.cells.lookup p.1=some c) ->
  (forIn l cs λ(x:Str×NameKind) (r:List (Str×Addr)) =>
   (if (x.2 == NameKind.free)=true then (do let c <- cellOf env x.1; pure (ForInStep.yield ((x.1,c) :: r))) else pure (ForInStep.yield r):Sem (ForInStep (List (Str×Addr)))))=pure (z55 env l cs)
 | [],cs,_=>rfl
 | (n,k) :: r,cs,h=>by
  rw [List.forIn_cons]
  by_cases e:k=NameKind.free
  ·subst e
   obtain ⟨c,hc⟩:=h (n,.free) List.mem_cons_self rfl
   have hc':env.cells.lookup n=some c:=hc
   have q:cellOf env n=pure c:=by unfold cellOf; rw [hc']
   simp only [beq_self_eq_true,if_true,q,pure_bind]
   rw [qw9 r _ λp hp=>h p (List.mem_cons_of_mem _ hp)]
   simp [z55,hc']
  ·have e':(k == NameKind.free)=false:=by simpa using e
   simp only [e',Bool.false_eq_true,if_false,pure_bind]
   rw [qw9 r _ λp hp=>h p (List.mem_cons_of_mem _ hp)]
   simp [z55,e]
theorem qd6 {scope:Scope}{env:Env}(h:∀ p∈scope.names,p.2=NameKind.free->∃ c,env.cells.lookup p.1=some c):closureFor scope env=pure (qB4 scope env):=by
 have q:=qw9 (env:=env) scope.names [] h
 have e:closureFor scope env=((forIn scope.names [] λ(x:Str×NameKind) (r:List (Str×Addr)) =>
   (if (x.2 == NameKind.free)=true then (do let c <- cellOf env x.1; pure (ForInStep.yield ((x.1,c) :: r))) else pure (ForInStep.yield r):Sem (ForInStep (List (Str×Addr))))) >>= λcs=>pure cs):=rfl
 rw [e,q,pure_bind]
 rfl
theorem qf0 {env:Env}{x:Str}{c:Addr}(hc:env.cells.lookup x=some c):∀(l:List (Str×NameKind)) (cs:List (Str×Addr)),
  ((x,NameKind.free)∈l∨cs.lookup x=some c)->(z55 env l cs).lookup x=some c
 | [],cs,h=>by
  rcases h with h | h
  ·exact absurd h (by simp)
  ·exact h
 | (n,k) :: r,cs,h=>by
  show (z55 env r _).lookup x=some c
  refine qf0 hc r _ ?_
  rcases h with h | h
  ·rcases List.mem_cons.mp h with e | e
   ·cases e
    refine .inr ?_
    rw [if_pos rfl,List.lookup_cons,hc]
    simp
   ·exact .inl e
  ·refine .inr ?_
   by_cases e:k=NameKind.free
   ·rw [if_pos e,List.lookup_cons]
    by_cases en:x=n
    ·subst en; simp [hc]
    ·have:(x == n)=false:=by simpa using en
     rw [this]; exact h
   ·rw [if_neg e]; exact h
theorem qq7 {env:Env}{x:Str}{c:Addr}:∀(l:List (Str×NameKind)) (cs:List (Str×Addr)),
  (∀ p∈l,p.2=NameKind.free->∃ c,env.cells.lookup p.1=some c)->(z55 env l cs).lookup x=some c->env.cells.lookup x=some c/\(x,NameKind.free)∈l∨cs.lookup x=some c
 | [],cs,_,h=>.inr h
 | (n,k) :: r,cs,hl,h=>by
  have h:(z55 env r (if k=NameKind.free then (n,(env.cells.lookup n).getD 0) :: cs else cs)).lookup x=some c:=h
  rcases qq7 r _ (λp hp=>hl p (List.mem_cons_of_mem _ hp)) h with ⟨a,b⟩ | q
  ·exact .inl ⟨a,List.mem_cons_of_mem _ b⟩
  ·by_cases e:k=NameKind.free
   ·rw [if_pos e,List.lookup_cons] at q
    by_cases en:x=n
    ·subst en
     subst e
     obtain ⟨c',hc'⟩:=hl (x,.free) List.mem_cons_self rfl
     have hc':env.cells.lookup x=some c':=hc'
     rw [hc'] at q
     simp at q
     subst q
     exact .inl ⟨hc',List.mem_cons_self⟩
    ·have:(x == n)=false:=by simpa using en
     rw [this] at q
     exact .inr q
   ·rw [if_neg e] at q
    exact .inr q
theorem qf5 {scope:Scope}{env:Env}(h:qU5 scope env=true){p:Str×NameKind}(hp:p∈scope.names)(hf:p.2=NameKind.free):env.kindOf p.1=some NameKind.cell∨env.kindOf p.1=some NameKind.free:=by
 have q:=List.all_eq_true.mp h p hp
 rw [hf] at q
 simpa using q
def cxC (X:Cx)(scope:Scope)(N':List Str)(s:Shared)(H:Hp)(C:Addr)(fp:List Addr):Cx :=
 { X with N:=N',s₀:=s,H₀:=H,env:=compEnvC scope (qB4 scope X.env) C X.env,outer:=X.stack,ex:=fp,fn:=λ_=>false,pn:=[],xe:=λ_ _=>False }
def seeσ (fm:List (Option Nat))(σ:St):St:=fm.map λo=>o.bind λi=>(σ[i]?).join
structure CompSc (X:Cx) (scope:Scope) (N':List Str) (fm:List (Option Nat)):Prop where
 kind:scope.kind=.function
 cell:∀ y∈scope.names,y.2≠.cell
 names:∀ y∈scope.names,y.2=.local->scope.names.lookup y.1=some .local
 free:qU5 scope X.env=true
 len:N'.length=fm.length
 map:((N'.zip fm).all λp=>match p.2 with | none=>true | some i=>(X.N[i]? == some p.1) && (scope.names.lookup p.1 == some NameKind.free))=true
theorem q59 {env:Env}{k:NameKind}{x:Str}:∀{names:List (Str×NameKind)},(names.map λ(n,k)=>if (k == NameKind.free && env.scope.kind == .function && env.kindOf n == some .cell) then (n,NameKind.cell) else (n,k)).lookup x=some k ->
  names.lookup x=some k∨(names.lookup x=some NameKind.free/\k=NameKind.cell)
 | [],h=>by simp at h
 | (n,j) :: r,h=>by
  have ih:=@q59 env k x r
  have h:List.lookup x ((if (j == NameKind.free && env.scope.kind == .function && env.kindOf n == some .cell)=true then (n,NameKind.cell) else (n,j)) :: (r.map λ(n,k)=>if (k == NameKind.free && env.scope.kind == .function && env.kindOf n == some .cell) then (n,NameKind.cell) else (n,k)))=some k:=h
  by_cases hc:(j == NameKind.free && env.scope.kind == .function && env.kindOf n == some .cell)=true
  ·rw [if_pos hc,List.lookup_cons] at h
   rw [List.lookup_cons]
   cases hx:x == n with
   | true =>
    rw [hx] at h
    simp at h
    refine .inr ⟨?_,h.symm⟩
    have:(j == NameKind.free)=true:=by
     simp only [Bool.and_eq_true] at hc
     exact hc.1.1
    have e:j=NameKind.free:=by simpa using this
    rw [e]
   | false =>
    rw [hx] at h
    exact ih h
  ·rw [if_neg hc,List.lookup_cons] at h
   rw [List.lookup_cons]
   cases hx:x == n with
   | true=>rw [hx] at h; exact .inl h
   | false=>rw [hx] at h; exact ih h
theorem qe4 {env:Env}{x:Str}:∀{names:List (Str×NameKind)},names.lookup x=some NameKind.free ->
  (names.map λ(n,k)=>if (k == NameKind.free && env.scope.kind == .function && env.kindOf n == some .cell) then (n,NameKind.cell) else (n,k)).lookup x=some .cell ∨
  (names.map λ(n,k)=>if (k == NameKind.free && env.scope.kind == .function && env.kindOf n == some .cell) then (n,NameKind.cell) else (n,k)).lookup x=some .free
 | [],h=>by simp at h
 | (n,j) :: r,h=>by
  have ih:=@qe4 env x r
  show List.lookup x ((if (j == NameKind.free && env.scope.kind == .function && env.kindOf n == some .cell)=true then (n,NameKind.cell) else (n,j)) :: _)=_∨List.lookup x ((if (j == NameKind.free && env.scope.kind == .function && env.kindOf n == some .cell)=true then (n,NameKind.cell) else (n,j)) :: _)=_
  rw [List.lookup_cons] at h
  cases hx:x == n with
  | true =>
   rw [hx] at h
   have e:j=NameKind.free:=by simpa using h
   by_cases hc:(j == NameKind.free && env.scope.kind == .function && env.kindOf n == some .cell)=true
   ·rw [if_pos hc]; exact .inl (by rw [List.lookup_cons,hx])
   ·rw [if_neg hc]; exact .inr (by rw [List.lookup_cons,hx,e])
  | false =>
   rw [hx] at h
   by_cases hc:(j == NameKind.free && env.scope.kind == .function && env.kindOf n == some .cell)=true
   ·rw [if_pos hc,List.lookup_cons,hx]; exact ih h
   ·rw [if_neg hc,List.lookup_cons,hx]; exact ih h
theorem q55 {α:Type}{x:Str}{k:α}:∀{l:List (Str×α)},l.lookup x=some k->(x,k)∈l:=λh=>PySem.mem_of_lookup h
section
variable {X:Cx}{pins:List (Addr×Obj)}{σ:St}{H H':Hp}{s:Shared}{scope:Scope}{N':List Str}{fm:List (Option Nat)}{fp:List Addr}{h':Heap}{tk:Nat}
theorem CompSc.cells (S:CompSc X scope N' fm)(I:Inv X pins σ H s):∀ p∈scope.names,p.2=NameKind.free->∃ c,X.env.cells.lookup p.1=some c:=λp hp hf=>I.ok.has p.1 (qf5 S.free hp hf)
theorem CompSc.look (S:CompSc X scope N' fm)(I:Inv X pins σ H s){x:Str}{c:Addr}(h:(qB4 scope X.env).lookup x=some c):X.env.cells.lookup x=some c/\(x,NameKind.free)∈scope.names:=by
 rcases qq7 scope.names [] (S.cells I) h with q | q
 ·exact q
 ·simp at q
theorem qt0 (S:CompSc X scope N' fm)(I:Inv X pins σ H s)(hf:∀ b∈fp,qj5 X pins H b)(hfs:∀ b∈fp,b < s.heap.objs.size)
  (hn:h'.Ns s.heap.objs.size λ_=>none) (hk:∀ b o,s.heap.get? b=some o->h'.get? b=some o):Inv (cxC X scope N' s H s.heap.objs.size fp) [] (seeσ fm σ) H { s with heap:=h',toks:=tk }:=by
 have cl:∀{x c},(qB4 scope X.env).lookup x=some c->X.env.cells.lookup x=some c/\(x,NameKind.free)∈scope.names:=λh=>S.look I h
 have ltc:∀ x c,X.env.cells.lookup x=some c->c < s.heap.objs.size:=λx c e=>by
  obtain ⟨v,q⟩:=I.cell x c e
  exact q.lt
 refine ⟨⟨I.ok.mod,?_,I.ok.glob,I.ok.blt,Nat.le_refl _,λx y c h1 h2=>I.ok.inj x y c (cl h1).1 (cl h2).1,λx hx=>?_,λx c h _=>absurd (show false=true from h) (by decide),I.ok.hd,I.ok.frames,.inl rfl,λb hb=>⟨Nat.ne_of_lt (hfs b hb),λx c e z=>?_⟩,I.bs,Nat.le_trans I.ok.bsz I.sz,λb o e hb=>?_,λb hb z=>?_,I.stack,I.stkFree⟩,
  rfl,I.bare,Un.kept hk,⟨_,hn,λi x v e1 e2 e3=>?_⟩,λx c e=>?_,I.hok.fresh (Nat.le_refl _),λx c e=>I.freeC x c (cl e).1,λp hp=>absurd (show p∈([]:List (Addr×Obj)) from hp) (by simp),I.hok.kept hk,?_⟩
 ·exact S.kind
 ·-- a cell for each name
  have hx:(relabel scope X.env).names.lookup x=some .cell∨(relabel scope X.env).names.lookup x=some .free:=hx
  have fr:scope.names.lookup x=some .free:=by
   rcases hx with hx | hx
   ·rcases q59 hx with q | q
    ·exact absurd rfl (S.cell _ (q55 q))
    ·exact q.1
   ·rcases q59 hx with q | q
    ·exact q
    ·exact q.1
  have m:=q55 fr
  obtain ⟨c,hc⟩:=S.cells I (x,.free) m rfl
  exact ⟨c,qf0 hc _ _ (.inl m)⟩
 ·exact (hf b hb).2.2.2.2.1 x c (cl e).1 z
 ·rcases (hf b hb).2.2.2.1 with z | z
  ·exact I.ok.noex b o e z
  ·exact absurd (Nat.lt_of_lt_of_le (Heap.lt_size (I.ok.bs b o e).1) z) (Nat.lt_irrefl _)
 ·rcases List.mem_cons.mp (I.stkSub b z) with q | q
  ·exact (hf b hb).2.1 q
  ·exact (hf b hb).2.2.1 q
 ·-- a name of the def,seen in the block
  have e1:N'[i]? = some x:=e1
  have il:i < fm.length:=by rw [<- S.len]; exact (List.getElem?_eq_some_iff.mp e1).1
  have ef:fm[i]? = some fm[i]:=by simp [il]
  unfold seeσ at e2
  rw [List.getElem?_map,ef] at e2
  cases q:fm[i] with
  | none=>rw [q] at e2; simp at e2
  | some j =>
   rw [q] at e2 ef
   have e2:(σ[j]?).join=some v:=by simpa using e2
   have e2':σ[j]? = some (some v):=by
    cases z:σ[j]? with
    | none=>rw [z] at e2; simp at e2
    | some w=>rw [z] at e2; simp at e2; rw [e2]
   have mz:(x,some j)∈N'.zip fm:=by
    have:(N'.zip fm)[i]? = some (x,some j):=by rw [List.getElem?_zip_eq_some]; exact ⟨e1,ef⟩
    exact List.mem_of_getElem? this
   have ok:=List.all_eq_true.mp S.map _ mz
   simp only [Bool.and_eq_true,beq_iff_eq] at ok
   have kx:=qf5 S.free (q55 ok.2) rfl
   obtain ⟨m,hm,hl⟩:=I.loc
   obtain ⟨u,ru,lk⟩:=hl j x v ok.1 e2' (by rcases kx with k | k; exact .inr (.inl k); exact .inr (.inr k))
   refine ⟨u,ru,.inr ?_⟩
   rcases lk with ⟨k,_⟩ | ⟨_,c,hc,⟨o,ho,hd⟩⟩
   ·rcases kx with z | z
    ·rw [z] at k; cases k
    ·rw [z] at k; cases k
   ·exact ⟨qe4 ok.2,c,qf0 hc _ _ (.inl (q55 ok.2)),o,hk _ _ ho,hd⟩
 ·obtain ⟨v,o,ho,hd⟩:=I.cell x c (cl e).1
  exact ⟨v,o,hk _ _ ho,hd⟩
 ·show (seeσ fm σ).length=N'.length
  unfold seeσ
  rw [List.length_map,S.len]
theorem qj2 {σ':St}{s1 s2:Shared}{p1:List (Addr×Obj)}(I:Inv X pins σ H s)(hf:∀ b∈fp,qj5 X pins H b)(J:Inv (cxC X scope N' s H s.heap.objs.size fp) p1 σ' H' s1)(hs:s2.os=s1.os)(hg:AllBare s2.gens)
  (hh:Heap.SameBut s.heap.objs.size s1.heap s2.heap):Inv X pins σ H' s2:=by
 have un:Un (frs X.stack) fp H H' s.heap s1.heap:=J.base
 have hne:∀ b o,s.heap.get? b=some o->b≠s.heap.objs.size:=λb o e=>Nat.ne_of_lt (Heap.lt_size e)
 have free':H' s.heap.objs.size=none:=J.free
 refine I.call' (ch:=fp) (hs.trans J.os) ⟨λb o e n hb hx=>?_,λb o e n hb hx=>?_,un.free,λb o e hx=>?_,un.tups,un.frzs,un.tbls⟩ (λb o e=>?_) hg λb hb=>?_
 ·exact (hh.2 b (hne b o e)).trans (un.keep b o e n hb hx)
 ·obtain ⟨sl,q⟩:=un.slot b o e n hb hx
  exact ⟨sl,(hh.2 b (hne b o e)).trans q⟩
 ·obtain ⟨o',q⟩:=un.there b o e hx
  exact ⟨o',(hh.2 b (hne b o e)).trans q⟩
 ·refine (J.hok b o e).stay (λc v hc q=>(hh.2 c ?_).trans q) (λ_ q=>q) λ_ _ q=>q
  rintro rfl
  rcases hc with z | z
  ·rw [<- z,free'] at e; cases e
  ·rw [free'] at z; cases z
 ·obtain ⟨_,f1,_,f3,f4,f5⟩:=hf b hb
  exact ⟨f3,f1,f4,f5⟩
end
def qM2 (X:Cx)(ifs:List Expr)(t:TT):Prop :=
 ∀(pins:List (Addr×Obj)) (s:Shared) (σ:St) (H:Hp) (Q:Bool->Hp->Prop),Inv X pins σ H s->t σ H Q ->
  wpAny (model X.prog X.w) X.A (forIn ifs true λc r=>if r=true then do let ok <- isTrue c X.env (eval c X.env); pure (ForInStep.yield ok) else pure (ForInStep.yield r)) (TP X pins σ Q) X.xe s
def tAll:TT:=λ_ H Q=>Q true H
theorem q35 {X:Cx}:qM2 X [] tAll:=λ_ _ _ H _ I h=>wpAny_tests_nil ⟨H,I,h⟩
theorem q86 {X:Cx}{c:Expr}{t:TT}(h:PT X c t):qM2 X [c] t:=λpins s σ H Q I q=>wpAny_tests_one (h pins s σ H Q I q)
def qX7 (J:It)(p:Addr)(g:TG)(tt:TT)(te:TE)(σ0:St)(H0:Hp)(Q:Hp->Prop):Prop :=
 ∃ W:Nat->Nat->St->Hp->Prop,(∃ m,W 0 m σ0 H0)/\∀ i m σ H,W i m σ H ->
  (J.stop i H/\Q H)∨(J.go i H/\∃ N:St->Hp->Prop,(∀ σ' H',N σ' H'->∃ m',m' < m/\W (i + 1) m' σ' H')/\∀ x H1,J.yld i H x H1->g x σ H1 λσ2 H2=>tt σ2 H2 λb H3 =>
   if b=true then te σ2 H3 λv H4=>∃ ys,H4 p=some (.lst ys)/\ys.length < sizeLine/\N σ2 (upd H4 p (.lst (ys ++ [v])))
   else N σ2 H3)
def tComp (fm:List (Option Nat))(wi:TI)(g:TG)(tt:TT)(te:TE):TE:=λσ H Q=>wi σ H λJ H1=>∀ p,H1 p=none ->
 qX7 J p g tt te (seeσ fm σ) (upd H1 p (.lst [])) λH2=>Q (.ref p) H2
def sComp (fm:List (Option Nat))(wi:TI)(g:TG)(tt:TT)(te:TE)(i:Nat):TS:=λD σ H=>wi σ H λJ H1=>∀ p,H1 p=none ->
 qX7 J p g tt te (seeσ fm σ) (upd H1 p (.lst [])) λH2=>D.nx (σ.set i (some (.ref p))) H2
section
variable {X:Cx}{elt iter tg:Expr}{ifs:List Expr}{scope:Scope}{pos:Pos}{N':List Str}{fm:List (Option Nat)}{wi:TI}{g:TG}{tt:TT}{te:TE}
theorem qV9 {R:Result->Shared->Prop}{pins:List (Addr×Obj)}{σ:St}{H:Hp}{s s1:Shared}{it p C:Addr}{fp:List Addr}{tn:Nat->Heap->Prop}{J:It}{Q:Hp->Prop}{H0:Hp}{σ0:St}
  (hc:X.calm=true) (hg:PG (cxC X scope N' s H C fp) tg g) (ht:qM2 (cxC X scope N' s H C fp) ifs tt) (he:PE (cxC X scope N' s H C fp) elt te)
  (T:Turn X.prog X.w X.K tg J fp it tn) (hfp:∀{H':Hp},(∀ b∈fp,H' b=none)->∀ b∈fp,qj5 (cxC X scope N' s H C fp) [] H' b)
  (I:Inv (cxC X scope N' s H C fp) [] σ0 H0 s1) (st:tn 0 s1.heap) (hfr:∀ b∈fp,H0 b=none) (blk:qX7 J p g tt te σ0 H0 Q)
  (hR:∀ σ' H' s',Inv (cxC X scope N' s H C fp) [] σ' H' s'->Q H'->R (.ok .next) s') :
  codeAny (model X.prog X.w) X.A (.compLoop (.ListComp elt [⟨tg,iter,ifs,0⟩] scope pos) 0 (.ref it) (.ref p) (compEnvC scope (qB4 scope X.env) C X.env)) R s1:=by
 obtain ⟨W,⟨m0,w0⟩,turn⟩:=blk
 refine codeAny_loop rfl (λn s'=>∃ i σ' H',Inv (cxC X scope N' s H C fp) [] σ' H' s'/\tn i s'.heap/\(∀ b∈fp,H' b=none)/\W i n σ' H') (λn s2 hI=>?_) m0 ⟨0,σ0,H0,I,st,hfr,w0⟩
 obtain ⟨i,σ2,H2,I2,st2,fr2,w2⟩:=hI
 show wpAny _ X.A ((compTurn (.ListComp elt [⟨tg,iter,ifs,0⟩] scope pos) 0 (.ref it) (.ref p) (compEnvC scope (qB4 scope X.env) C X.env)).onRaise λx=>do noteFrame x (compEnvC scope (qB4 scope X.env) C X.env); theTreesLotGoes x) _ _ s2
 refine wpAny_noted ?_
 rw [compTurn_list]
 have lift:∀{α:Type} {t:Sem α} {Q1 Q2:α->Shared->Prop} {E2:Value->Shared->Prop} {s':Shared},wpAny (model X.prog X.w) X.A t Q1 (λ_ _=>False) s'->(∀ a s'',Q1 a s''->Q2 a s'')->wpAny (model X.prog X.w) X.A t Q2 E2 s' :=
  λh k=>wpAny_mono h k λ_ _ z=>z.elim
 rcases turn i n σ2 H2 w2 with ⟨stop,qn⟩ | ⟨go,N,hN,step⟩
 ·refine wpAny_bind (wpAny_standAt (wpAny_bind (lift (T.done (cxC X scope N' s H C fp) rfl rfl rfl hc i [] s2 σ2 H2 _ I2 (hfp fr2) st2 stop) λr s3 q=>?_)))
  obtain ⟨hr,I3⟩:=q
  subst hr
  exact wpAny_pure (hR σ2 H2 s3 I3 qn)
 ·refine wpAny_bind (wpAny_standAt (wpAny_bind (lift (T.item (cxC X scope N' s H C fp) rfl rfl rfl hc i [] s2 σ2 H2 _ I2 (hfp fr2) st2 go) λr s3 q=>?_)))
  obtain ⟨u,hr,h3⟩:=q
  subst hr
  refine wpAny_bind (lift h3 λ_ s4 q4=>?_)
  obtain ⟨x,H4,I4,r4,y4,st4,fr4⟩:=q4
  have I4':=I4.pinned (hfp fr4) (T.obj _ _ st4)
  refine wpAny_bind (lift (hg _ s4 σ2 H4 x u _ I4' r4 (step x H4 y4)) λ_ s5 q5=>?_)
  obtain ⟨σ5,H5,I5,q5⟩:=q5
  refine wpAny_bind (lift (ht _ s5 σ5 H5 _ I5 q5) λb s6 q6=>?_)
  obtain ⟨H6,I6,q6⟩:=q6
  have again:∀{σ7:St} {H7:Hp} {s7:Shared} {m':Nat},Inv (cxC X scope N' s H C fp) ([] ++ qh9 fp s4.heap) σ7 H7 s7->W (i + 1) m' σ7 H7 ->
    ∃ i σ' H',Inv (cxC X scope N' s H C fp) [] σ' H' s7/\tn i s7.heap/\(∀ b∈fp,H' b=none)/\W i m' σ' H':=λ{σ7 H7 s7 m'} I7 w7=>by
   refine ⟨i + 1,σ7,H7,I7.unpinned,T.keep _ _ _ st4 λb hb o e=>(I7.pin (b,o) (List.mem_append_right _ (List.mem_append_right _ (q66 hb e)))).1,λb hb=>?_,w7⟩
   obtain ⟨o,e,d⟩:=T.obj _ _ st4 b hb
   exact (I7.pin (b,o) (List.mem_append_right _ (List.mem_append_right _ (q66 hb e)))).2.1
  cases b with
  | false =>
   rw [if_neg Bool.false_ne_true] at q6
   obtain ⟨m',hm,w7⟩:=hN _ _ q6
   exact wpAny_pure ⟨rfl,m',hm,again I6 w7⟩
  | true =>
   rw [if_pos rfl] at q6
   refine wpAny_bind (wpAny_bind (lift (he _ s6 σ5 H6 _ I6 q6) λu s7 q7=>?_))
   obtain ⟨v,H7,I7,r7,ys,hp,hz,n7⟩:=q7
   obtain ⟨m',hm,w7⟩:=hN _ _ n7
   have ap:=q45 (X:=cxC X scope N' s H C fp) ([] ++ qh9 fp s4.heap) s7 σ5 H7 (.ref p) [v] (.ref p) [u] (λ_ H8=>W (i + 1) m' σ5 H8) I7 rfl (.cons r7 .nil) ⟨p,ys,v,rfl,rfl,hp,hz,w7⟩
   refine wpAny_bind (lift ap λ_ s8 q8=>?_)
   obtain ⟨_,H8,I8,_,w8⟩:=q8
   exact wpAny_pure (wpAny_pure ⟨rfl,m',hm,again I8 w8⟩)
end
section
variable {K:PySem.W.Frag}{p:Addr}{g:TG}{tt:TT}{te:TE}{σ0:St}{H0:Hp}{Q:Hp->Prop}
def ql3 (p:Addr)(g:TG)(tt:TT)(te:TE)(N:St->Hp->Prop)(x:V)(σ:St)(H:Hp):Prop :=
 g x σ H λσ2 H2=>tt σ2 H2 λb H3=>if b=true then te σ2 H3 λv H4=>∃ ys,H4 p=some (.lst ys)/\ys.length < sizeLine/\N σ2 (upd H4 p (.lst (ys ++ [v]))) else N σ2 H3
theorem q85 {lo:Int}{n:Nat}(Pv:Nat->St->Hp->Prop)(h0:Pv 0 σ0 H0)(hs:∀ i σ H,i < n->Pv i σ H->ql3 p g tt te (Pv (i + 1)) (.int (lo + i)) σ H)(hd:∀ σ H,Pv n σ H->Q H):qX7 (Itr lo n) p g tt te σ0 H0 Q:=by
 refine ⟨λi m σ H=>m=n - i/\i<=n/\Pv i σ H,⟨n,by simp,Nat.zero_le _,h0⟩,?_⟩
 rintro i m σ H ⟨rfl,hi,q⟩
 by_cases hlt:i < n
 ·refine .inr ⟨hlt,Pv (i + 1),λσ' H' r=>⟨n - (i + 1),by omega,rfl,hlt,r⟩,λx H' y=>?_⟩
  obtain ⟨e,y⟩:=y
  subst e y
  exact hs i σ _ hlt q
 ·have e:i=n:=by omega
  subst e
  exact .inl ⟨Nat.le_refl _,hd σ H q⟩
theorem q57 {a:Addr}{xs:List V}(Pv:Nat->St->Hp->Prop)(h0:Pv 0 σ0 H0)(hl:∀ i σ H,i<=xs.length->Pv i σ H->SqL K H a xs)(hs:∀ i x σ H,xs[i]? = some x->Pv i σ H->ql3 p g tt te (Pv (i + 1)) x σ H)(hd:∀ σ H,Pv xs.length σ H->Q H) :
  qX7 (Itl K a) p g tt te σ0 H0 Q:=by
 refine ⟨λi m σ H=>m=xs.length - i/\i<=xs.length/\Pv i σ H,⟨xs.length,by simp,Nat.zero_le _,h0⟩,?_⟩
 rintro i m σ H ⟨rfl,hi,r⟩
 have q:=hl i σ H hi r
 by_cases hlt:i < xs.length
 ·refine .inr ⟨⟨xs,xs[i],q,by simp [hlt]⟩,Pv (i + 1),λσ' H' r'=>⟨xs.length - (i + 1),by omega,rfl,hlt,r'⟩,λx H' y=>?_⟩
  obtain ⟨e,y⟩:=y
  subst e
  exact hs i x σ _ (y xs q) r
 ·have e:i=xs.length:=by omega
  subst e
  exact .inl ⟨⟨xs,q,Nat.le_refl _⟩,hd σ H r⟩
end
section
variable {X:Cx}{elt iter tg:Expr}{ifs:List Expr}{scope:Scope}{pos:Pos}{N':List Str}{fm:List (Option Nat)}{wi:TI}{g:TG}{tt:TT}{te:TE}
theorem qt1 {RR:Value->Addr->Result->Shared->Prop}{pins:List (Addr×Obj)}{σ:St}{H:Hp}{s:Shared}{it:Addr}{fp:List Addr}{tn:Nat->Heap->Prop}{J:It}{Q:Addr->Hp->Prop}{E:Value->Shared->Prop}
  (hc:X.calm=true) (S:CompSc X scope N' fm) (hg:∀ s H C fp,PG (cxC X scope N' s H C fp) tg g) (ht:∀ s H C fp,qM2 (cxC X scope N' s H C fp) ifs tt) (he:∀ s H C fp,PE (cxC X scope N' s H C fp) elt te)
  (T:Turn X.prog X.w X.K tg J fp it tn) (I:Inv X pins σ H s) (st:tn 0 s.heap) (hf:∀ b∈fp,qj5 X pins H b)
  (blk:∀ p,H p=none->qX7 J p g tt te (seeσ fm σ) (upd H p (.lst [])) (Q p))
  (hR:∀ p C H' s' (m:Str->Option Value),s'.heap.Ns C m->(∀ h',Heap.SameBut C s'.heap h'->Inv X pins σ H' { s' with heap:=h' })->qj5 X pins H' C->Q p H'->Inv X pins σ H' s'->RR (.ref p) C (.ok .next) s') :
  wpAny (model X.prog X.w) X.A (newList []) (λacc s₃=>wpAny (model X.prog X.w) X.A (newFunctionEnv scope X.env.globals (qB4 scope X.env) [] X.env.qual none .none (some X.env)) (λcenv s₄ =>
   codeAny (model X.prog X.w) X.A (.compStart (.ListComp elt [⟨tg,iter,ifs,0⟩] scope pos) 0 (.ref it) acc { cenv with scope:=relabel scope X.env }) (RR acc cenv.locals) s₄) E s₃) E s:=by
 have I1:Inv X pins σ (upd H s.heap.objs.size (.lst [])) { s with heap:=s.heap.push { cls:=.type "list",data:=.seq ([]:List Value).toArray } }:=I.lnew (t':=s.toks) .nil (Nat.zero_le _)
 have hb:=blk _ I.fresh
 refine wpAny_newObj_type (wpAny_newFunctionEnv S.cell (by intro y hy; simp at hy) (λh1 hn1 hs1=>?_) S.kind)
 dsimp only at hn1 hs1 ⊢
 generalize hq:s.heap.push { cls:=.type "list",data:=.seq ([]:List Value).toArray }=h2 at hn1 hs1 I1 ⊢
 have sz:h2.objs.size=s.heap.objs.size + 1:=by rw [<- hq,Heap.size_push]
 have old:∀ b o,h2.get? b=some o->h1.get? b=some o:=λb o e=>hs1.extBut b o (Nat.ne_of_lt (Heap.lt_size e)) (Heap.get?_push_of_some _ e)
 have old0:∀ b o,s.heap.get? b=some o->h2.get? b=some o:=λb o e=>hq ▸ Heap.get?_push_of_some _ e
 have lt0:∀ b∈fp,b < s.heap.objs.size:=λb hb=>by
  obtain ⟨o,e,_⟩:=T.obj _ _ st b hb
  exact Heap.lt_size e
 have hf1:∀ b∈fp,qj5 X pins (upd H s.heap.objs.size (.lst [])) b:=λb hb=>by
  obtain ⟨f0,f⟩:=hf b hb
  exact ⟨by rw [q07 (Nat.ne_of_lt (lt0 b hb))]; exact f0,f⟩
 have lt2:∀ b∈fp,b < h2.objs.size:=λb hb=>by rw [sz]; exact Nat.lt_succ_of_lt (lt0 b hb)
 have J0:=qt0 (s:={ s with heap:=h2 }) (h':=h1) (tk:=s.toks) (fp:=fp) S I1 hf1 lt2 hn1 old
 have st1:tn 0 h1:=T.keep _ _ _ st λb _ o e=>old b o (old0 b o e)
 have fpok:∀{H':Hp},(∀ b∈fp,H' b=none)->∀ b∈fp,qj5 (cxC X scope N' { s with heap:=h2 } (upd H s.heap.objs.size (.lst [])) h2.objs.size fp) [] H' b:=λ{H'} hn b hb=>by
  refine ⟨hn b hb,Nat.ne_of_lt (lt2 b hb),λz=>?_,.inl hb,λx c e z=>?_,λp hp=>absurd (show p∈([]:List (Addr×Obj)) from hp) (by simp)⟩
  ·rcases List.mem_cons.mp (I.stkSub b z) with q | q
   ·exact (hf b hb).2.1 q
   ·exact (hf b hb).2.2.1 q
  ·exact (hf b hb).2.2.2.2.1 x c (S.look I e).1 z
 have loop:=qV9 (iter:=iter) (pos:=pos) (R:=RR (.ref s.heap.objs.size) h2.objs.size) (σ:=σ) (pins:=pins) hc (hg _ _ _ _) (ht _ _ _ _) (he _ _ _ _) T fpok J0 st1 (λb hb=>(hf1 b hb).1) hb λσ' H' s' Jv qv=>by
  obtain ⟨m,hm,_⟩:=Jv.loc
  exact hR _ _ H' s' m hm (λh' sb=>qj2 (s:={ s with heap:=h2 }) I1 hf1 Jv rfl Jv.bare sb) (I1.fpOk (Nat.le_refl _) Jv.free) qv (qj2 (s:={ s with heap:=h2 }) I1 hf1 Jv rfl Jv.bare (Heap.SameBut.refl ..))
 exact codeAny_compStart_list loop (T.self _ 0 _ _ _ st1 loop)
theorem q38 (hc:X.calm=true)(S:CompSc X scope N' fm)(hi:PI X tg iter wi)(hg:∀ s H C fp,PG (cxC X scope N' s H C fp) tg g)(ht:∀ s H C fp,qM2 (cxC X scope N' s H C fp) ifs tt)
  (he:∀ s H C fp,PE (cxC X scope N' s H C fp) elt te) (hs:∀ x,foldedSetIterable iter X.env x=pure x:=by intro _; rfl) :
  PE X (.ListComp elt [⟨tg,iter,ifs,0⟩] scope pos) (tComp fm wi g tt te):=by
 intro pins s σ H Q I h
 rw [eval_ListComp]
 refine wpAny_comprehension_free (use:=none) rfl hs (qd6 (S.cells I)) S.kind S.names (thn (hi pins s σ H _ I h) λv s1 h1=>thn h1 λitv s2 h2=>?_)
 obtain ⟨it,fp,tn,J,H2,e,I2,T,st2,f2,blk⟩:=h2
 subst e
 refine qt1 (RR:=λacc C=>compPost (model X.prog X.w) X.A X.xe none (EP X pins σ Q) acc C) (Q:=λp H'=>Q (.ref p) H') hc S hg ht he T I2 st2 f2 blk ?_
 intro p C H' s' m hm back _ q _
 exact ⟨m,hm,λh' sb=>⟨.ref p,H',back h' sb,rfl,q⟩⟩
theorem qu8 {i:Nat}{x:Str}{px spos:Pos}(hc:X.calm=true)(hN:X.N.Nodup)(hx:X.N[i]? = some x)(hl:X.env.kindOf x=some .local)(S:CompSc X scope N' fm)(hi:PI X tg iter wi)(hg:∀ s H C fp,PG (cxC X scope N' s H C fp) tg g)
  (ht:∀ s H C fp,qM2 (cxC X scope N' s H C fp) ifs tt) (he:∀ s H C fp,PE (cxC X scope N' s H C fp) elt te) (hs:∀ x,foldedSetIterable iter X.env x=pure x:=by intro _; rfl)
  (hsw:swapsWith (.ListComp elt [⟨tg,iter,ifs,0⟩] scope pos) (some (.Name x px)) spos.line X.env=pure true:=by rfl) :
  PS X (.Assign [.Name x px] (.ListComp elt [⟨tg,iter,ifs,0⟩] scope pos) spos) (sComp fm wi g tt te i):=by
 intro pins s σ H D I h
 rw [exec_Assign_Name_used _ _ _ _ hsw]
 refine wpAny_bind (wpAny_standAt (wpAny_bind ?_))
 show wpAny _ _ (comprehension (.ListComp elt [⟨tg,iter,ifs,0⟩] scope pos) scope X.env _ (newList []) false (eval iter X.env) (some (assign (.Name x px) X.env)) >>= _) _ _ s
 refine wpAny_bind (thn (wpAny_comprehension_free (use:=some (assign (.Name x px) X.env)) (Q:=λ_ s'=>SP X pins D .next s') rfl hs (qd6 (S.cells I)) S.kind S.names
  (thn (hi pins s σ H _ I h) λv s1 h1=>thn h1 λitv s2 h2=>?_)) λ_ s' q=>wpAny_pure (wpAny_pure q))
 obtain ⟨it,fp,tn,J,H2,e,I2,T,st2,f2,blk⟩:=h2
 subst e
 refine qt1 (RR:=λacc C=>compPost (model X.prog X.w) X.A X.xe (some (assign (.Name x px) X.env)) (λ_ s'=>SP X pins D .next s') acc C) (Q:=λp H'=>D.nx (σ.set i (some (.ref p))) H') hc S hg ht he T I2 st2 f2 blk ?_
 intro p C H' s' m hm back fC q I'
 obtain ⟨f0,f1,f2,f3,f4,f5⟩:=fC
 show wpAny _ _ (assign (.Name x px) X.env (.ref p)) _ _ s'
 refine wpAny_assign_Name (qn8 I' hN hx (.inl hl) (v:=.ref p) rfl (λs'' I'' ⟨a,sb,ha⟩=>?_) (.inr hl))
 have haC:C≠a:=by
  rcases ha with z | z
  ·rw [z]; exact f1
  ·exact Ne.symm (f4 x a z)
 refine ⟨m,hm.sameBut sb haC,λh3 sb3=>⟨σ.set i (some (.ref p)),H',I''.turned (t':=s''.toks) (λb o hb e=>(sb3.2 b hb).trans e) f0 f1 f3 f4 f5,q⟩⟩
end
end L2
namespace L2
open PySem PySem.Spec PySem.W
section
variable {prog:Program}{w:World}{A:Around}{R:Result->Shared->Prop}{h:Heap}{g:Array GenState}{d:Drawn}{t:Nat}{os:OsState}
variable {nm q:Str}{C N f:Addr}{bs bm:List Value}{hdct:Bool}{sn:List Str}{sub:List Value}{ab:Bool}{col:Option Bool}{dd:Option Addr}{k0 k1 k2 k3 k5:Option Value}
abbrev z61 (C tu:Addr):Obj:={ cls:=.ref C,data:=.fields #[.ref tu,.none,.none,.none,.bool false,.none] }
abbrev qM5 (us:List Value):Obj:={ cls:=.type "tuple",data:=.seq us.toArray }
structure XBases (bm:List Value):Prop where
 ve:bm.contains (.type "ValueError")=true
 be:bm.contains (.type "BaseException")=true
 ae:bm.contains (.type "AttributeError")=false
 ne:bm.contains (.type "NameError")=false
 ob:bm.contains (.type "object")=true
 rf:∀ self:Value,refuseLoop self "__setattr__" bm=pure ()
theorem x_check (B:XBases bm) {M:Model}{E:Value->Shared->Prop}{us:List Value}{Q:Unit->Shared->Prop}(hC:h.get? C=some (excClassObj nm q C N bs bm hdct sn sub ab col dd k0 k1 k2 k3 k5 "ValueError.__new__"))
  (hq:Q () ⟨h,g,d,t,os⟩):wpAny M A (checkBuiltinCall "ValueError.__new__" ⟨.ref C :: us,[]⟩) Q E ⟨h,g,d,t,os⟩:=by
 have FV:=PySem.F.excBase_ValueError
 have c1:(Value.ref C :: bm).contains (.type "ValueError")=true:=by rw [List.contains_cons,B.ve,Bool.or_true]
 have c2:=FV.noStar
 simp only [checkBuiltinCall,FV.newKind,FV.newSplit,FV.newRow]
 repeat (first | refine wpAny_loadPart_at hC ?_ | (refine wpAny_isSubtype_exc hC ?_; rw [c1]) | refine wpAny_staticBase_exc hC ?_ | refine wpAny_madeBy_exc hC ?_ | (simp only [bne_self_eq_false,Bool.false_eq_true,if_false]) | wp_step)
 exact hq
theorem x_new (B:XBases bm) {us:List Value}(hC:h.get? C=some (excClassObj nm q C N bs bm hdct sn sub ab col dd k0 k1 k2 k3 k5 "ValueError.__new__"))
  (hq:R (.ok (.ret (.ref (h.objs.size + 1)))) ⟨(h.push (qM5 us)).push (z61 C h.objs.size),g,d,t,os⟩) (hus:us.length<=sizeLine) :
  codeAny (model prog w) A (.builtin "ValueError.__new__" ⟨.ref C :: us,[]⟩) R ⟨h,g,d,t,os⟩:=by
 have FV:=PySem.F.excBase_ValueError
 have e1:=FV.ends
 have c1:(Value.ref C :: bm).contains (.type "ValueError")=true:=by rw [List.contains_cons,B.ve,Bool.or_true]
 have c2:(Value.ref C :: bm).contains (.type "AttributeError")=false:=by rw [List.contains_cons,B.ae]; rfl
 have c3:(Value.ref C :: bm).contains (.type "NameError")=false:=by rw [List.contains_cons,B.ne]; rfl
 refine codeAny_builtinAt FV.entry ?_
 unfold Builtin.«BaseException.__new__»
 refine PySem.wpAt_bind ?_
 show PySem.wpAt _ _ _ (stack >>= _) _ _ _
 refine PySem.wpAt_bind (PySem.wpAt_stack λa b=>PySem.wpAt_of_wpAny ?_)
 wp_walk
 refine PySem.wpAt_of_wpAny ?_
 rw [FV.owner]
 repeat (first | with_reducible refine wpAny_madeHere_exc FV.canon hC ?_ | with_reducible refine wpAny_loadPart_at hC ?_ | (with_reducible refine wpAny_isSubtype_exc hC ?_; first | rw [c1] | rw [c2] | rw [c3]) | wp_step)
 show R _ _
 rw [Heap.size_push]
 exact hq
theorem x_make (B:XBases bm) {us:List Value}(hC:h.get? C=some (excClassObj nm q C N bs bm hdct sn sub ab col dd k0 k1 k2 k3 k5 "ValueError.__new__"))
  (hi:Looks (model prog w) h (typeLookup (.ref C) "__init__") (some (.ref f))) (hb:∀ self,Looks (model prog w) h (bindSpecial (.ref f) self) (.ref f,[self])) (hus:us.length<=sizeLine)
  (hq:codeAny (model prog w) (A.under (.builtin "type.__call__" ⟨.ref C :: us,[]⟩)) (.call (.ref f) ⟨.ref (h.objs.size + 1) :: us,[]⟩) (InitBack (h.objs.size + 1) R) ⟨(h.push (qM5 us)).push (z61 C h.objs.size),g,d,t,os⟩) :
  codeAny (model prog w) A (.call (.ref C) ⟨us,[]⟩) R ⟨h,g,d,t,os⟩:=by
 have f1:=tc_lookup
 have f2:=tc_bind (.ref C)
 have hT:(⟨h,g,d,t,os⟩:Shared).TypeIs (.ref C) "type" := ⟨_,hC,rfl⟩
 refine codeAny_of_tree ?_
 show wpAny _ _ (callAny (.ref C) _) _ _ _
 repeat (any_goals (first | assumption | with_reducible refine wpAny_loadPart_at hC ?_ | wp_step))
 refine ⟨rfl,?_⟩
 refine codeAny_call_builtin_at (Code.quiet_builtin _ (by decide +kernel)) entry_typeCall (wpAny_check_type_call_sub hC ?_)
 repeat (first | with_reducible refine wpAny_loadPart_at hC ?_ | with_reducible refine wpAny_madeBy_exc hC ?_ | wp_step)
 refine codeAny_call_builtin_code (Code.quiet_builtin _ PySem.F.excBase_ValueError.quiet) (x_check B hC (x_new B hC ?_ hus))
 show wpAny _ _ _ _ _ _
 have k:∀ b o,h.get? b=some o->((h.push (qM5 us)).push (z61 C h.objs.size)).get? b=some o:=λb o e=>Heap.get?_push_of_some _ (Heap.get?_push_of_some _ e)
 have hC1:=k _ _ hC
 have hx:((h.push (qM5 us)).push (z61 C h.objs.size)).get? (h.objs.size + 1)=some (z61 C h.objs.size):=by heap_get
 have cC:(Value.ref C :: bm).contains (.ref C)=true:=by simp
 have i1:=hi.keeps k
 have b1:=(hb (.ref (h.objs.size + 1))).keeps k
 have t1:Looks (model prog w) ((h.push (qM5 us)).push (z61 C h.objs.size)) (typeOf (.ref (h.objs.size + 1))) (.ref C):=(Looks.ld hx).andThen .now
 unfold isInstance
 repeat (first | with_reducible refine wpAny_loadPart_at hx ?_ | (with_reducible refine wpAny_isSubtype_exc hC1 ?_; rw [cC]) | wp_step)
 show wpAny _ _ (isSubtype (.ref C) (.ref C)) _ _ ⟨(h.push (qM5 us)).push (z61 C h.objs.size),g,d,t,os⟩
 refine wpAny_isSubtype_exc hC1 ?_
 rw [cC]
 unfold callSpecial? specialOf
 simp only [Bool.not_true,Bool.false_eq_true,if_false]
 repeat (first | with_reducible refine wpAny_call ?_ | lk)
 refine codeAny_mono hq λr s' z=>?_
 rcases r with e | (v | _ | _ | _) <;> first | exact z | exact z.elim | skip
 obtain ⟨rfl,z⟩:=z
 exact wpAny_pure (wpAny_pure z)
end
end L2
namespace L2
open PySem PySem.Spec PyProof.Rows
def ql2 (C:Addr)(dx:Option Addr)(tb:Value)(a0:Addr):Obj:={ cls:=.ref C,dict:=dx,data:=.fields #[.ref a0,tb,.none,.none,.bool false,.none] }
def XO (C:Addr)(dx:Option Addr)(tb:Value)(ea:Addr):HO:=.ext λh=>∃ a0,h.get? ea=some (ql2 C dx tb a0)
def TB (fl:Value)(T:Addr):HO:=.ext λh=>∃ o ts,h.get? T=some o/\o.data=.fields ts/\ts[3]? = some fl
section
variable {P:Program}{w:World}{H:Hp}{h:Heap}{C ea T:Addr}{dx:Option Addr}{tb fl:Value}
theorem XO.mk {a0:Addr}(e:h.get? ea=some (ql2 C dx tb a0)):ObjOk P w H h ea (XO C dx tb ea):=⟨⟨a0,e⟩,⟨_,e⟩,λ_ _ ⟨a,q⟩ k=>⟨a,k _ q⟩⟩
theorem TB.mk {o:Obj}{ts:Array Value}(e:h.get? T=some o)(d:o.data=.fields ts)(q:ts[3]? = some fl):ObjOk P w H h T (TB fl T):=⟨⟨o,ts,e,d,q⟩,⟨_,e⟩,λ_ _ ⟨o,ts,e,d,q⟩ k=>⟨o,ts,k _ e,d,q⟩⟩
theorem XO.at (ok:HOk P w H h)(e:H ea=some (XO C dx tb ea)):∃ a0,h.get? ea=some (ql2 C dx tb a0):=(ok ea _ e).1
theorem TB.at (ok:HOk P w H h)(e:H T=some (TB fl T)):∃ o ts,h.get? T=some o/\o.data=.fields ts/\ts[3]? = some fl:=(ok T _ e).1
theorem qM8 {a:Addr}{o:HO}(e:H a=some o):upd H a o=H:=by
 funext b
 unfold upd
 split
 ·rename_i z; subst z; exact e.symm
 ·rfl
end
section
variable {X:Cx}{pins:List (Addr×Obj)}{σ:St}{H:Hp}{s:Shared}{E:Value->Shared->Prop}{C ea T:Addr}{dx:Option Addr}{tb fl:Value}{A:Around}
theorem Inv.xset {i:Nat}{v tb':Value}{a0 a1:Addr}(I:Inv X pins σ H s)(e:H ea=some (XO C dx tb ea))(q:s.heap.get? ea=some (ql2 C dx tb a0))
  (hv:(#[.ref a0,tb,.none,.none,.bool false,.none]:Array Value).setIfInBounds i v = #[.ref a1,tb',.none,.none,.bool false,.none]) :
  Inv X pins σ (upd H ea (XO C dx tb' ea)) { s with heap:=s.heap.update ea (Obj.mapFields (·.setIfInBounds i v)) }:=by
 have e1:(s.heap.update ea (Obj.mapFields (·.setIfInBounds i v))).get? ea=some (ql2 C dx tb' a1):=by
  rw [Heap.get?_update_self _ q rfl]
  show some ({ cls:=.ref C,dict:=dx,data:=.fields ((#[.ref a0,tb,.none,.none,.bool false,.none]:Array Value).setIfInBounds i v) }:Obj)=_
  rw [hv]; rfl
 exact I.write (t':=s.toks) (e:=ea) (by rw [e]; trivial) (.inl rfl) (λb u hb z=>by rw [Heap.get?_update_other _ _ (Ne.symm hb)]; exact z) ⟨_,e1⟩ (XO.mk e1)
theorem Inv.tset {v:Value}{o:Obj}{ts:Array Value}(I:Inv X pins σ H s)(e:H T=some (TB fl T))(q:s.heap.get? T=some o)(d:o.data=.fields ts)(h3:3 < ts.size) :
  Inv X pins σ (upd H T (TB v T)) { s with heap:=s.heap.update T (Obj.mapFields (·.setIfInBounds 3 v)) }:=by
 have d':=Obj.data_mapFields d (·.setIfInBounds 3 v)
 have e1:=Heap.get?_update_self (Obj.mapFields (·.setIfInBounds 3 v)) q (Obj.isFreed_of_fields d')
 exact I.write (t':=s.toks) (e:=T) (by rw [e]; trivial) (.inl rfl) (λb u hb z=>by rw [Heap.get?_update_other _ _ (Ne.symm hb)]; exact z) ⟨_,e1⟩ (TB.mk e1 d' (by simp [h3]))
theorem Inv.slots {h':Heap}(I:Inv X pins σ H s)(hs:Heap.SlotsOnly (frs X.stack) s.heap h'):Inv X pins σ H { s with heap:=h' }:=by
 have un:Un (frs X.stack) [] H H s.heap h':=⟨λb o e _ hb _=>(hs.2.1 b hb).trans e,λb o e _ _ _=>hs.2.2 b o e,λ_ _ _ n _=>n,λb o e _=>let ⟨sl,q⟩:=hs.2.2 b o e; ⟨_,q⟩,λ_ _ q=>q,λ_ _ _ q=>q,λ_ ps q=>⟨#[],by rw [q]; simp⟩⟩
 refine I.call (h':=h') (g':=s.gens) (d':=s.drawn) (t':=s.toks) (ch:=[]) un (λb o e=>?_) I.bare λb z=>absurd z (by simp)
 refine (I.hok b o e).stay (λc u hc q=>(hs.2.1 c λhb=>?_).trans q) (λ_ q=>q) λ_ _ q=>q
 have n:=I.stkFree c hb
 rcases hc with z | z
 ·rw [<- z,n] at e; cases e
 ·rw [n] at z; cases z
def TbOk (H:Hp)(tb:Value):Prop:=tb=.none∨∃ T,tb=.ref T/\H T=some (TB .none T)
def Noted (X:Cx)(pins:List (Addr×Obj))(σ:St)(H:Hp)(C:Addr)(dx:Option Addr)(ea:Addr)(fl:Value)(s':Shared):Prop :=
 ∃ T,H T=none/\T≠ea/\Inv X pins σ (upd (upd H T (TB fl T)) ea (XO C dx (.ref T) ea)) s'
theorem qG1 {head:Value}{b:Bool}{Q:Unit->Shared->Prop}(hfr:X.A.frames=some (X.env :: X.outer))(hst:X.stack=X.env :: X.outer)(hL:X.env.frame=some X.env.locals)(I:Inv X pins σ H s)(e:H ea=some (XO C dx tb ea))
  (h:∀ s',Noted X pins σ H C dx ea (rawInt X.env.locals) s'->Q () s') :
  wpAny (model X.prog X.w) X.A (do let a <- frameOf X.env; let pl <- entryPlaceOf X.env.locals b; let r <- EntryCells.newEntry head a .none (rawInt X.env.locals) .none pl; setField (.ref ea) 1 r) Q E s:=by
 have hl:=I.stack
 rw [hst] at hl
 refine wpAny_bind (wpAny_frameOf_fun hfr hl hL λh1 hs1=>?_)
 have I1:=I.slots (h':=h1) (by rw [hst]; exact hs1)
 refine wpAny_bind (wpAny_entryPlaceOf λpl hpl=>?_)
 unfold EntryCells.newEntry newFields
 refine wpAny_bind (wpAny_newObj_type ?_ (hpl.sizeOk5 _ _ _ _ _))
 have fresh:H h1.objs.size=none:=I1.hok.fresh (Nat.le_refl _)
 have ne:h1.objs.size≠ea:=λz=>by rw [<- z,fresh] at e; cases e
 have t3:(([head,.ref X.env.locals,.none,rawInt X.env.locals,.none] ++ (if pl.isEmpty then List.replicate 6 Value.none else pl)).toArray:Array Value)[3]? = some (rawInt X.env.locals):=by simp
 have I2:Inv X pins σ (upd H h1.objs.size (TB (rawInt X.env.locals) h1.objs.size)) { s with heap:=h1.push { cls:=.type "traceback",dict:=none,data:=.fields ([head,.ref X.env.locals,.none,rawInt X.env.locals,.none] ++ (if pl.isEmpty then List.replicate 6 Value.none else pl)).toArray } } :=
  I1.laid (a:=h1.objs.size) (t':=s.toks) (λc u q=>Heap.get?_push_of_some _ q) (Nat.le_refl _) (TB.mk (Heap.get?_push_size _ rfl) rfl t3)
 have e2:(upd H h1.objs.size (TB (rawInt X.env.locals) h1.objs.size)) ea=some (XO C dx tb ea):=by rw [q07 (Ne.symm ne)]; exact e
 obtain ⟨a0,q⟩:=XO.at I2.hok e2
 refine wpAny_setField q rfl (by show 1 < 6; decide) (h _ ⟨h1.objs.size,fresh,ne,I2.xset (i:=1) (a1:=a0) e2 q rfl⟩)
theorem qR6 {Q:Unit->Shared->Prop}(hst:X.stack=X.env :: X.outer)(hL:X.env.frame=some X.env.locals)(I:Inv X pins σ H s)(e:H ea=some (XO C dx tb ea))(ht:TbOk H tb)
  (h:∀ s',Noted X pins σ H C dx ea (rawInt X.env.locals) s'->Q () s'):wpAny (model X.prog X.w) X.A (noteFrame (.ref ea) X.env) Q E s:=by
 have hfr:X.A.frames=some (X.env :: X.outer):=by rw [I.ok.frames,hst]
 obtain ⟨a0,q⟩:=XO.at I.hok e
 unfold noteFrame
 simp only [hL]
 refine wpAny_bind (wpAny_field q (x:=tb) rfl rfl ?_)
 rcases ht with z | ⟨T,z,eT⟩
 ·subst z
  rw [if_neg (by decide)]
  exact qG1 hfr hst hL I e h
 ·subst z
  obtain ⟨oT,ts,qT,dT,t3⟩:=TB.at I.hok eT
  rw [if_pos (show (Value.ref T != Value.none)=true by simp)]
  refine wpAny_bind (wpAny_field qT dT t3 ?_)
  rw [if_neg (show ¬ ((Value.none == rawInt X.env.locals)=true) by simp [rawInt])]
  have h3:3 < ts.size:=(Array.getElem?_eq_some_iff.mp t3).1
  have I1:=I.tset (v:=Value.none) eT qT dT h3
  rw [qM8 eT] at I1
  exact wpAny_bind (wpAny_setField qT dT h3 (qG1 hfr hst hL I1 e h))
theorem qq4 {Q:Unit->Shared->Prop}(I:Inv X pins σ H s)(e:H ea=some (XO C dx (.ref T) ea))(eT:H T=some (TB fl T))(h:∀ s',Inv X pins σ (upd H T (TB .none T)) s'->Q () s') :
  wpAny (model X.prog X.w) A (setFlight (.ref ea) none) Q E s:=by
 obtain ⟨a0,q⟩:=XO.at I.hok e
 obtain ⟨oT,ts,qT,dT,t3⟩:=TB.at I.hok eT
 unfold setFlight
 refine wpAny_bind (wpAny_field q (x:=.ref T) rfl rfl ?_)
 rw [if_pos (show (Value.ref T != Value.none)=true by simp)]
 have h3:3 < ts.size:=(Array.getElem?_eq_some_iff.mp t3).1
 exact wpAny_setField qT dT h3 (h _ (I.tset (v:=Value.none) eT qT dT h3))
def z60 (ea:Addr)(H H':Hp):Prop:=∀ b o,b≠ea->H b=some o->H' b=some o
theorem qG9 {Q:Unit->Shared->Prop}(hst:X.stack=X.env :: X.outer)(hL:X.env.frame=some X.env.locals)(I:Inv X pins σ H s)(e:H ea=some (XO C dx tb ea))(ht:TbOk H tb)
  (h:∀ s' T H',Inv X pins σ H' s'->H' ea=some (XO C dx (.ref T) ea)->H' T=some (TB .none T)->z60 ea H H'->Q () s'):wpAny (model X.prog X.w) X.A (leaving X.env (.ref ea)) Q E s:=by
 unfold leaving
 refine wpAny_bind (qR6 hst hL I e ht λs1 ⟨T,n,ne,I1⟩=>?_)
 have e1:upd (upd H T (TB (rawInt X.env.locals) T)) ea (XO C dx (.ref T) ea) ea=some (XO C dx (.ref T) ea):=q01
 have e2:upd (upd H T (TB (rawInt X.env.locals) T)) ea (XO C dx (.ref T) ea) T=some (TB (rawInt X.env.locals) T):=by rw [q07 ne,q01]
 refine qq4 I1 e1 e2 λs2 I2=>h s2 T _ I2 (by rw [q07 (Ne.symm ne)]; exact e1) q01 λb o hb q=>?_
 have hT:b≠T:=q16 q n
 rw [q07 hT,q07 hb,q07 hT]
 exact q
def CXE (P:Program)(w:World):CXT:=λouter H s E e s'=>∃(ea C dx:Addr) (tb:Value) (H0 H':Hp),e=.ref ea/\s'.os=s.os/\AllBare s'.gens/\Un (frs outer) [] H H' s.heap s'.heap/\HOk P w H' s'.heap /\
 H' ea=some (XO C (some dx) tb ea)/\TbOk H' tb/\z60 ea H0 H'/\H0 ea=none/\E (.ref C) (some dx) H0
end
theorem qk3 {P:Program}{w:World}{K:PySem.W.Frag}{mg:Str->Option Value}{base:Heap}{N:List Str}{qual:Str}{scope:Scope}{f:Addr}{cd:Value}{A:Around}{outer:List Env}{s:Shared}{H:Hp}{E:XK} :
  q73 (CXE P w) (qD2 (CXE P w) P w K mg base N qual scope f cd A outer s H E) E:=by
 intro pins σ H1 s1 e s2 I h
 obtain ⟨ea,C,dx,tb,H0,H2,rfl,os,bare,un,hok,e1,ht,sx,n0,q⟩:=h
 have J:Inv (qD2 (CXE P w) P w K mg base N qual scope f cd A outer s H E) pins σ H2 s2:=I.call' (ch:=[]) os un hok bare λb z=>absurd z (by simp)
 refine qG9 (X:=qD2 (CXE P w) P w K mg base N qual scope f cd A outer s H E) rfl rfl J e1 ht λs3 T H3 J3 e3 eT sx3=>?_
 exact ⟨ea,C,dx,.ref T,H0,H3,rfl,J3.os,J3.bare,J3.base,J3.hok,e3,.inr ⟨T,rfl,eT⟩,λb o hb z=>sx3 b o hb (sx b o hb z),n0,q⟩
end L2
namespace L2
open PySem PySem.Spec
structure XCl (K:PySem.W.Frag) (C:Addr):Prop where
 obj:∃(nm q:Str) (N:Addr) (bs bm:List Value) (sn:List Str) (sub:List Value) (ab:Bool) (col:Option Bool) (dd:Option Addr) (k0 k1 k2 k3 k5:Option Value),
  K.lookup C=some (excClassObj nm q C N bs bm true sn sub ab col dd k0 k1 k2 k3 k5 "ValueError.__new__")/\XBases bm
section
variable {M:Model}{A:Around}{E:Value->Shared->Prop}{env:Env}{h:Heap}{g:Array GenState}{d:Drawn}{t:Nat}{os:OsState}
variable {nm q:Str}{C N:Addr}{bs bm:List Value}{hdct:Bool}{sn:List Str}{sub:List Value}{ab:Bool}{col:Option Bool}{dd:Option Addr}{k0 k1 k2 k3 k5:Option Value}{ea a0:Addr}{dx:Option Addr}
theorem x_raise {Q:Flow->Shared->Prop}(B:XBases bm) (hh:A.handled=none) (hC:h.get? C=some (excClassObj nm q C N bs bm hdct sn sub ab col dd k0 k1 k2 k3 k5 "ValueError.__new__"))
  (he:h.get? ea=some (ql2 C dx .none a0)) (hE:E (.ref ea) ⟨h,g,d,t,os⟩):wpAny M A (raiseStmt env (some (pure (.ref ea))) none) Q E ⟨h,g,d,t,os⟩:=by
 have c1:(Value.ref C :: bm).contains (.type "BaseException")=true:=by rw [List.contains_cons,B.be,Bool.or_true]
 have hc:(ql2 C dx .none a0).cls=.ref C:=rfl
 unfold raiseStmt
 refine wpAny_bind (wpAny_pure ?_)
 repeat (first | (with_reducible refine wpAny_loadPart_at he ?_; try rw [hc]) | with_reducible refine wpAny_loadPart_at hC ?_ | (with_reducible refine wpAny_isSubtype_exc hC ?_; rw [c1]) | wp_step)
 exact wpAny_raiseNew_none hh hE
theorem qx3 {oe:Obj}{us:List Value}{Q:Unit->Shared->Prop}(B:XBases bm) (hC:h.get? C=some (excClassObj nm q C N bs bm hdct sn sub ab col dd k0 k1 k2 k3 k5 "ValueError.__new__"))
  (he:h.get? ea=some oe) (hc:oe.cls=.ref C) (hq:Q () ⟨h,g,d,t,os⟩):wpAny M A (checkBuiltinCall "ValueError.__init__" ⟨.ref ea :: us,[]⟩) Q E ⟨h,g,d,t,os⟩:=by
 have FV:=PySem.F.excBase_ValueError
 have c1:(Value.ref C :: bm).contains (.type "ValueError")=true:=by rw [List.contains_cons,B.ve,Bool.or_true]
 have c2:=FV.noStar
 simp only [checkBuiltinCall,FV.initKind,FV.initSplit,FV.initRow]
 repeat (first | (with_reducible refine wpAny_loadPart_at he ?_; rw [hc]) | with_reducible refine wpAny_loadPart_at hC ?_ | (with_reducible refine wpAny_isSubtype_exc hC ?_; rw [c1]) | wp_step)
 refine wpAny_onRaise ?_
 have z:∀(a b:String) (n:Nat),Bind.check ⟨.positional, "*", "ValueError",.self,[⟨"args",.varPos,false⟩]⟩ a b n (List.map (λx=>x.fst) ({ pos:=Value.ref ea :: us }:Args).kw)=pure ():=λa b n=>check_star_args _ _ _ _ _ _
 rw [z]
 exact wpAny_pure hq
end
section
variable {prog:Program}{w:World}{A:Around}{E:Value->Shared->Prop}{env:Env}{h:Heap}{g:Array GenState}{d:Drawn}{t:Nat}{os:OsState}
variable {nm q:Str}{C N:Addr}{bs bm:List Value}{hdct:Bool}{sn:List Str}{sub:List Value}{ab:Bool}{col:Option Bool}{dd:Option Addr}{k0 k1 k2 k3 k5:Option Value}{ea a0:Addr}{dx:Option Addr}{tb:Value}
theorem x_init {us:List Value}{Q:Value->Shared->Prop}(B:XBases bm) (hC:h.get? C=some (excClassObj nm q C N bs bm hdct sn sub ab col dd k0 k1 k2 k3 k5 "ValueError.__new__"))
  (he:h.get? ea=some (ql2 C dx tb a0)) (hus:us.length<=sizeLine) (hq:Q .none ⟨(h.push (qM5 us)).update ea (Obj.mapFields (·.setIfInBounds 0 (.ref h.objs.size))),g,d,t,os⟩) :
  wpAny (model prog w) A (call (.builtin "ValueError.__init__") (.ref ea :: us)) Q E ⟨h,g,d,t,os⟩:=by
 have FV:=PySem.F.excBase_ValueError
 refine wpAny_call (codeAny_call_builtin FV.init.plain FV.initEntry (qx3 B hC he rfl ?_))
 have he2:=Heap.get?_push_of_some (qM5 us) he
 wp_walk
 exact hq
theorem x_set {name:Str}{v:Value}{Q:Unit->Shared->Prop}(B:XBases bm) (hC:h.get? C=some (excClassObj nm q C N bs bm true sn sub ab col dd k0 k1 k2 k3 k5 "ValueError.__new__"))
  (hx:h.get? ea=some (ql2 C none tb a0)) (sa:PySem.W.Looks (model prog w) h (typeLookup (.ref C) "__setattr__") (some (.builtin "object.__setattr__"))) (na:PySem.W.Looks (model prog w) h (typeLookup (.ref C) name) none)
  (hq:∀ h' t',h'.Ns1 h.objs.size (λy=>if y=name then some v else none)->h'.get? ea=some (ql2 C (some h.objs.size) tb a0)->(∀ b o,b≠ea->h.get? b=some o->h'.get? b=some o)->Q () ⟨h',g,d,t',os⟩) :
  wpAny (model prog w) A (setAttr (.ref ea) name v) Q E ⟨h,g,d,t,os⟩:=by
 have SF:=PySem.F.store_ValueError
 have ty:PySem.W.Looks (model prog w) h (typeOf (.ref ea)) (.ref C):=(PySem.W.Looks.ld hx).andThen .now
 have mro:PySem.W.Looks (model prog w) h (mroOf (.ref C)) (.ref C :: bm):=((PySem.W.Looks.ld (part:=none) hC).andThen .now).andThen .now
 have sub:PySem.W.Looks (model prog w) h (isSubtype (.ref C) (.type "object")) true:=by
  intro A' Q' E' s' k q
  obtain ⟨h2,g2,d2,t2,os2⟩:=s'
  refine wpAny_isSubtype_exc (k _ _ hC) ?_
  rw [List.contains_cons,B.ob,Bool.or_true]
  exact q
 have ins:PySem.W.Looks (model prog w) h (isInstance (.ref ea) (.type "object")) true:=ty.andThen sub
 refine wpAny_bind (wpAny_mkText (wpAny_bind (wpAny_bind (wpAny_bind (ty _ _ _ _ (λ_ _ e=>e) (sa _ _ _ _ (λ_ _ e=>e) (wpAny_holding ?_)))))))
 rw [SF.slot.bind]
 refine wpAny_bind (wpAny_pure (wpAny_bind (wpAny_call ?_)))
 refine codeAny_call_builtin SF.slot.plain SF.entry (@PySem.W.check_slot (model prog w) _ _ ⟨h,g,d,t + 1,os⟩ "object.__setattr__" "object" "__setattr__" (.ref ea) [.str name t,v] [] _ SF.kind SF.split ins (SF.args (.ref ea) (.str name t) v) ?_)
 show wpAny (model prog w) A.in1 (Builtin.«object.__setattr__» ⟨[.ref ea,.str name t,v],[]⟩) _ _ _
 rw [PySem.W.osa_eq,refuse_eq]
 refine wpAny_bind (wpAny_bind (ty.here (wpAny_bind (mro.here ?_))))
 rw [refuseLoop_ref,B.rf]
 refine wpAny_pure (wpAny_bind (ty.here (wpAny_bind (na.here (wpAny_bind (wpAny_pure ?_))))))
 show wpAny _ _ (Builtin.ObjectAttr.storeInOwnDict (.ref ea) (.ref C) (.str name t) name v false) _ _ _
 unfold Builtin.ObjectAttr.storeInOwnDict
 refine wpAny_bind (wpAny_pure (wpAny_bind (wpAny_bind (wpAny_loadPart hx ?_))))
 show wpAny _ _ (classData C >>= λcd=>if (!cd.hasDict)=true then pure none else (alloc { cls:=Value.type "dict",data:=Data.dict #[] } >>= λe=>update ea (λo=>{ cls:=o.cls,dict:=some e,data:=o.data,slots:=o.slots }) >>= λ_=>pure (some e))) _ _ _
 refine wpAny_bind (wpAny_bind (wpAny_load hC (wpAny_pure ?_)))
 rw [if_neg (show ¬ (!true)=true by decide)]
 have hx1:(h.push { cls:=Value.type "dict",data:=Data.dict #[] }).get? ea=some (ql2 C none tb a0):=Heap.get?_push_of_some _ hx
 have ne:ea≠h.objs.size:=Nat.ne_of_lt (Heap.lt_size hx)
 refine wpAny_bind (wpAny_alloc (wpAny_bind (wpAny_update hx1 (wpAny_pure ?_))))
 have hu:((h.push { cls:=Value.type "dict",data:=Data.dict #[] }).update ea λo=>{ cls:=o.cls,dict:=some h.objs.size,data:=o.data,slots:=o.slots }).get? ea=some (ql2 C (some h.objs.size) tb a0):=Heap.get?_update_self _ hx1 rfl
 have hd:((h.push { cls:=Value.type "dict",data:=Data.dict #[] }).update ea λo=>{ cls:=o.cls,dict:=some h.objs.size,data:=o.data,slots:=o.slots }).get? h.objs.size=some { cls:=Value.type "dict",data:=Data.dict #[] } :=
  (Heap.get?_update_other _ _ ne).trans (Heap.get?_push_size _ rfl)
 have hn:((h.push { cls:=Value.type "dict",data:=Data.dict #[] }).update ea λo=>{ cls:=o.cls,dict:=some h.objs.size,data:=o.data,slots:=o.slots }).Ns h.objs.size (λ_=>none) :=
  ⟨_,#[],_,hd,rfl,λe he=>absurd he (by simp),λ_=>rfl⟩
 show wpAny _ _ (Builtin.ObjectAttr.storeInDict h.objs.size (.str name t) name v) _ _ _
 unfold Builtin.ObjectAttr.storeInDict Builtin.ObjectAttr.newKeyGuard
 refine wpAny_bind (wpAny_pure (wpAny_bind (wpAny_nsSet1 (Heap.Ns1.of_empty hn) λh2 hn2 sb=>?_)))
 obtain ⟨oD,esD,epD,hoD,hdD,hcD⟩:=hn2.count (Within.cons name v Within.nil)
 refine wpAny_bind (wpAny_lookBehind hoD (by rw [hdD]; exact pastItsLine_dict (Nat.le_trans hcD (by rw [List.length_singleton,sizeLine_eq]; omega))) ?_)
 refine wpAny_pure (wpAny_pure (wpAny_pure ?_))
 exact hq h2 _ hn2 ((sb.2 ea ne).trans hu) λb o hb e=>(sb.2 b (Nat.ne_of_lt (Heap.lt_size e))).trans ((Heap.get?_update_other _ _ (Ne.symm hb)).trans (Heap.get?_push_of_some _ e))
theorem x_get {dx:Addr}{name:Str}{v:Value}{m:Str->Option Value}{expr:Bool}{Q:Value->Shared->Prop}(B:XBases bm) (hC:h.get? C=some (excClassObj nm q C N bs bm true sn sub ab col dd k0 k1 k2 k3 k5 "ValueError.__new__"))
  (hx:h.get? ea=some (ql2 C (some dx) tb a0)) (hm:h.Ns dx m) (hv:m name=some v) (ga:PySem.W.Looks (model prog w) h (typeLookup (.ref C) "__getattribute__") (some (.builtin "BaseException.__getattribute__")))
  (gn:PySem.W.Looks (model prog w) h (typeLookup (.ref C) "__getattr__") none) (na:PySem.W.Looks (model prog w) h (typeLookup (.ref C) name) none) (hh:PySem.W.handedIn v=true)
  (hq:∀ t',Q v ⟨h,g,d,t',os⟩):wpAny (model prog w) A (getAttr (.ref ea) name expr) Q E ⟨h,g,d,t,os⟩:=by
 have FX:=PySem.F.attr_ValueError
 have ty:PySem.W.Looks (model prog w) h (typeOf (.ref ea)) (.ref C):=(PySem.W.Looks.ld hx).andThen .now
 have sub:PySem.W.Looks (model prog w) h (isSubtype (.ref C) (.type "BaseException")) true:=by
  intro A' Q' E' s' k q
  obtain ⟨h2,g2,d2,t2,os2⟩:=s'
  refine wpAny_isSubtype_exc (k _ _ hC) ?_
  rw [List.contains_cons,B.be,Bool.or_true]
  exact q
 have ins:PySem.W.Looks (model prog w) h (isInstance (.ref ea) (.type "BaseException")) true:=ty.andThen sub
 have fnd:PySem.W.Looks (model prog w) h (Builtin.ObjectAttr.find (.ref ea) (.ref C) name) (.value v):=by
  intro A' Q' E' s' k q
  unfold Builtin.ObjectAttr.find
  refine wpAny_bind (na _ _ _ _ k (wpAny_bind (wpAny_pure (wpAny_bind (wpAny_pure ?_)))))
  show wpAny _ _ (Builtin.ObjectAttr.ownThenClass (.ref ea) name none none) _ _ _
  unfold Builtin.ObjectAttr.ownThenClass
  refine wpAny_bind (wpAny_bind (wpAny_bind (wpAny_loadPart (k _ _ hx) ?_)))
  show wpAny _ _ (instanceDict ea false) _ _ _
  refine wpAny_bind (wpAny_loadPart (k _ _ hx) ?_)
  show wpAny _ _ (classData C >>= λcd=>if (!cd.hasDict)=true then pure none else pure (some dx)) _ _ _
  refine wpAny_bind (wpAny_bind (wpAny_load (k _ _ hC) (wpAny_pure ?_)))
  rw [if_neg (show ¬ (!true)=true by decide)]
  refine wpAny_pure ?_
  show wpAny _ _ (nsGet dx name) _ _ _
  refine wpAny_nsGet (hm.keeps k) ?_
  rw [hv]
  exact wpAny_bind (wpAny_rule (wpAny_pure q))
 unfold getAttr getAttrBy
 refine wpAny_bind (wpAny_mkText (wpAny_holding (wpAny_bind (ty _ _ _ _ (λ_ _ e=>e) (wpAny_bind (ga _ _ _ _ (λ_ _ e=>e) ?_))))))
 have n1:(onTheHeap (Value.ref C) && Value.builtin "BaseException.__getattribute__" == Value.builtin "object.__getattribute__")=false:=by
  rw [show (Value.builtin "BaseException.__getattribute__" == Value.builtin "object.__getattribute__")=false by decide +kernel,Bool.and_false]
 show wpAny _ _ (if (onTheHeap (Value.ref C) && Value.builtin "BaseException.__getattribute__" == Value.builtin "object.__getattribute__")=true then _ else _) _ _ _
 rw [if_neg (by rw [n1]; decide)]
 unfold getAttrByItsOwn
 refine wpAny_bind (show wpAny _ _ (hookBefore (.ref C)) _ _ _ from gn _ _ _ _ (λ_ _ e=>e) (wpAny_bind (wpAny_attempt (wpAny_holding ?_))))
 unfold callGetattribute
 have n2:(expr && onTheHeap (Value.builtin "BaseException.__getattribute__"))=false:=by cases expr <;> rfl
 rw [n2,if_neg (by decide)]
 unfold boundAndCalled
 rw [FX.ga.bind]
 refine wpAny_bind (wpAny_pure (wpAny_call ?_))
 refine codeAny_call_builtin FX.ga.plain F.entry_bexc_ga (@PySem.W.check_slot (model prog w) _ _ ⟨h,g,d,t + 1,os⟩ "BaseException.__getattribute__" "BaseException" "__getattribute__" (.ref ea) [.str name t] [] _ (by decide +kernel) (by decide +kernel) ins (F.args_bexc_ga (.ref ea) (.str name t)) ?_)
 show wpAny (model prog w) A.in1 (Builtin.«object.__getattribute__» ⟨[.ref ea,.str name t],[]⟩) _ _ _
 unfold Builtin.«object.__getattribute__»
 refine wpAny_bind (wpAny_pure (wpAny_bind (wpAny_pure (wpAny_bind (ty.here (wpAny_bind (fnd.here (wpAny_pure ?_))))))))
 show wpAny _ _ (handedOut v) _ _ _
 rw [PySem.W.handedOut_of hh]
 exact wpAny_pure (hq _)
end
end L2
namespace L2
open PySem PySem.Spec PyProof.Rows
structure XKl (K:PySem.W.Frag) (C:Addr):Prop extends XCl K C where
 sa:PySem.W.findIn K (.ref C) "__setattr__" = some (some (.builtin "object.__setattr__"))
 ga:PySem.W.findIn K (.ref C) "__getattribute__" = some (some (.builtin "BaseException.__getattribute__"))
 gn:PySem.W.findIn K (.ref C) "__getattr__" = some none
 nw:PySem.W.findIn K (.ref C) "word" = some none
structure XMk (K:PySem.W.Frag) (C f:Addr):Prop where
 init:PySem.W.findIn K (.ref C) "__init__" = some (some (.ref f))
 fn:PySem.W.isFn K (.ref f)=true
 kp:PySem.W.keepIn K (.ref C)=true
def tXMake (C:Addr)(sp:Sp)(E:XK):TE:=λ_ H Q=>∀ ea,H ea=none->sp [.ref ea] (upd H ea (XO C none .none ea)) (λv H2=>v=.non/\Q (.ref ea) H2) E
section
variable {X:Cx}{CX:CXT}{k:Nat}{f C:Addr}{fd:FuncData}{ps:List Str}{sp:Sp}{E:XK}{x:Str}{p pos apos pos':Pos}{e o value:Expr}{ta tv te:TE}{t:TA}
theorem qi0 (XC:XKl X.K C)(M:XMk X.K C f)(F:FnOk X.prog X.w X.K X.mg X.base CX k f fd ps sp)(hr:Room (k + 1) X.A)(hg:Gl X x)(hm:X.mg x=some (.ref C))(hb:Binds X.K fd ps [])(hx:q73 CX X E)
  (hdb:(x == ("__debug__" : Str))=false:=by decide):PE X (.Call (.Name x p) [] [] pos) (tXMake C sp E):=by
 intro pins s σ H Q I h
 obtain ⟨nm,q,N,bs,bm,sn,sub,ab,col,dd,k0,k1,k2,k3,k5,lk,B⟩:=XC.obj
 refine wpAny_Call_Name_kw (qh2 I hg hm ?_ hdb)
 refine PySem.W.callWith_K0 I.kIn M.kp (wpAny_call ?_)
 have I1:Inv X pins σ H { s with heap:=s.heap.push (qM5 []) }:=I.kept (t':=s.toks) λb o e=>Heap.get?_push_of_some _ e
 have I2:Inv X pins σ (upd H (s.heap.objs.size + 1) (XO C none .none (s.heap.objs.size + 1))) { s with heap:=(s.heap.push (qM5 [])).push (z61 C s.heap.objs.size) }:=by
  refine I1.laid (a:=s.heap.objs.size + 1) (t':=s.toks) (λb o e=>Heap.get?_push_of_some _ e) (Nat.le_of_eq (Heap.size_push ..)) (XO.mk (a0:=s.heap.objs.size) ?_)
  exact Heap.get?_push_at (by rw [Heap.size_push]) rfl
 have hq:=h (s.heap.objs.size + 1) (I.hok.fresh (Nat.le_succ _))
 have hl:[Value.ref (s.heap.objs.size + 1)].length=ps.length:=by have:=F.len _ _ _ _ hq; simpa using this
 have hl2:([Value.ref (s.heap.objs.size + 1)] ++ []).length=ps.length:=by rw [List.append_nil]; exact hl
 obtain ⟨hh,g,d,t,os⟩:=s
 refine x_make (us:=[]) B (I.kIn _ _ lk) (PySem.W.looks_findIn I.kIn M.init) (λself=>PySem.W.bind_fn I.kIn self (beq_iff_eq.mp M.fn)) (Nat.zero_le _) ?_
 refine codeAny_mono (F.run _ X.stack _ _ ⟨[Value.ref (hh.objs.size + 1)],[]⟩ ([Value.ref (hh.objs.size + 1)] ++ []) [V.ref (hh.objs.size + 1)] _ E (hr.make C [] []) (I2.env0.make C [] []) (hb _ [Value.ref (hh.objs.size + 1)] I2.kIn hl2) (.cons rfl .nil) hq) λr s' hq'=>?_
 cases r with
 | error e=>exact hx pins σ _ _ e s' I2 hq'
 | ok fl =>
  cases fl with
  | ret u =>
   obtain ⟨v,H',I3,rv,ev,q3⟩:=I2.after hq'
   subst ev
   exact ⟨rv,⟨V.ref (hh.objs.size + 1),H',I3,rfl,q3⟩⟩
  | next=>exact False.elim hq'
  | brk=>exact False.elim hq'
  | cont=>exact False.elim hq'
def tVInit (K:PySem.W.Frag)(t:TA):TE:=λσ H Q=>t σ H λvs H2=>∃ ea C dx tb y,vs=[.ref ea,y]/\H2 ea=some (XO C dx tb ea)/\XKl K C/\Q .non H2
theorem ve_find:PySem.W.findCls [] (.type "ValueError") (.type "type") "__init__" = some (.val (.builtin "ValueError.__init__")):=by kernel_rfl
theorem z08 {a b:Expr}{pl:Sem Bool}(hg:Gl X "ValueError") (hm:X.mg "ValueError" = none) (ha:PA X [a,b] t)
  (hst:starEach [a,b] X.env=(false,eval a X.env) :: starEach [b] X.env:=by rfl) (hpl:(backTo pos (starEach [b] X.env)).any (·.1)=false:=by rfl)
  (ht:eval (.Call (.Attribute (.Name "ValueError" p) "__init__" apos) [a,b] [] pos) X.env=(do
   let ov <- eval (.Name "ValueError" p) X.env
   standAt apos.atName
   let (f,first) <- holding [ov] (getMethod ov "__init__" pl)
   callWith pos f first (backTo pos (starEach [a,b] X.env)) (backToKw pos (keywordEach [] X.env))):=by rfl) :
  PE X (.Call (.Attribute (.Name "ValueError" p) "__init__" apos) [a,b] [] pos) (tVInit X.K t):=by
 intro pins s σ H Q I h
 refine PySem.W.methodCall_KW (pl:=pl) (qi5 I hg hm (u:=.type "ValueError") (by rfl) ?_) ht
 obtain ⟨m,fr⟩:=I.fr
 refine PySem.W.method_type fr I.mod.kin (by kernel_rfl) (by decide +kernel) (show PySem.W.findCls X.K (.type "ValueError") (.type "type") "__init__" = some (.val (.builtin "ValueError.__init__")) from ve_find) (by rfl) ?_
 have I0:=I.tok (s.toks + 1)
 refine PyProof.Rows.callWith_builtin1 (thn (ha pos pins _ σ H _ I0 h) λus s1 ⟨vs,H1,I1,r1,q1⟩=>?_) hst hpl
 obtain ⟨ea,C,dx,tb,y,rfl,e1,XC,q⟩:=q1
 obtain ⟨u,v,rfl,ru,rv⟩:=r1.two
 cases ru
 obtain ⟨nm,qn,N,bs,bm,sn,sub,ab,col,dd,k0,k1,k2,k3,k5,lk,B⟩:=XC.obj
 obtain ⟨a0,ea1⟩:=XO.at I1.hok e1
 have I2:Inv X pins σ H1 { s1 with heap:=s1.heap.push (qM5 [v]) }:=I1.kept (t':=s1.toks) λb o e=>Heap.get?_push_of_some _ e
 have I3:=I2.xset (i:=0) (v:=.ref s1.heap.objs.size) (a1:=s1.heap.objs.size) e1 (Heap.get?_push_of_some _ ea1) rfl
 rw [qM8 e1] at I3
 obtain ⟨hh,g,d,tt,os⟩:=s1
 exact x_init (us:=[v]) B (I1.kIn _ _ lk) ea1 (by show 1<=sizeLine; rw [sizeLine_eq]; omega) ⟨.non,H1,I3,rfl,q⟩
end
structure XAt (K:PySem.W.Frag) (C:Addr) (m:Str) (f:Addr):Prop where
 ga:PySem.W.specialIn K (.ref C) "__getattribute__" = some (some (.builtin "type.__getattribute__"))
 rd:PySem.W.readsIn K C (.type "type")=true
 fd:PySem.W.findCls K (.ref C) (.type "type") m=some (.val (.ref f))
 kp:PySem.W.keepIn K (.ref f)=true
section
variable {X:Cx}{CX:CXT}{k:Nat}{f C:Addr}{fd:FuncData}{ps:List Str}{sp:Sp}{E:XK}{x m:Str}{p pos apos pos':Pos}{e o value:Expr}{es:List Expr}{ta tv te:TE}{t:TA}
theorem qn1 {pl:Sem Bool}(Z:XAt X.K C m f)(F:FnOk X.prog X.w X.K X.mg X.base CX k f fd ps sp)(hr:Room k X.A)(hg:Gl X x)(hm:X.mg x=some (.ref C))(hb:Binds X.K fd ps [])(hx:q73 CX X E)(ha:PA X (e :: es) t)
  (hst:starEach (e :: es) X.env=(false,eval e X.env) :: starEach es X.env:=by rfl) (hpl:(backTo pos (starEach es X.env)).any (·.1)=false:=by rfl) (hdb:(x == ("__debug__" : Str))=false:=by decide)
  (ht:eval (.Call (.Attribute (.Name x p) m apos) (e :: es) [] pos) X.env=(do
   let ov <- eval (.Name x p) X.env
   standAt apos.atName
   let (f,first) <- holding [ov] (getMethod ov m pl)
   callWith pos f first (backTo pos (starEach (e :: es) X.env)) (backToKw pos (keywordEach [] X.env))):=by rfl) :
  PE X (.Call (.Attribute (.Name x p) m apos) (e :: es) [] pos) (qJ3 sp [] E t):=by
 intro pins s σ H Q I h
 refine PySem.W.methodCall_KW (pl:=pl) (qh2 I hg hm ?_ hdb) ht
 refine PySem.W.method_cls I.kIn Z.ga (PySem.W.cls_value I.kIn Z.rd Z.fd (by rfl) ?_)
 have I0:=I.tok (s.toks + 1)
 refine PySem.W.callWith_K (first:=[]) (h₀:=X.base) I.ok.mod.kin Z.kp (thn (ha pos pins _ σ H _ I0 h) λus s1 ⟨vs,H1,I1,r,q⟩=>⟨I1.kIn,?_⟩) hst hpl
 exact qz2 F hr hb .nil hx I1 r q
def sXFld (K:PySem.W.Frag)(ta tv:TE)(n:Str):TS:=λD σ H=>tv σ H λy H1=>ta σ H1 λx H2=>∃ ea C tb,x=.ref ea/\H2 ea=some (XO C none tb ea)/\XKl K C/\PySem.W.findIn K (.ref C) n=some none /\
 ∀ dx,H2 dx=none->D.nx σ (upd (upd H2 ea (XO C (some dx) tb ea)) dx (.xd [(n,y)]))
theorem ps_xfld {n:Str}(ha:PE X o ta)(hv:PE X value tv)(hs:swapsWith value (some (.Attribute o n pos')) pos.line X.env=pure false:=by rfl):PS X (.Assign [.Attribute o n pos'] value pos) (sXFld X.K ta tv n):=by
 intro pins s σ H D I h
 refine plainObj_wpAny_Assign_Attribute (thn (hv pins s σ H _ I h) λu s1 ⟨y,H1,I1,ry,q⟩=>thn (ha pins s1 σ H1 _ I1 q) λov s2 ⟨x,H2,I2,rx,ea,C,tb,ex,e1,XC,nw,q2⟩=>?_) hs
 subst ex
 obtain rfl:ov=Value.ref ea:=rx
 obtain ⟨nm,qn,N,bs,bm,sn,sub,ab,col,dd,k0,k1,k2,k3,k5,lk,B⟩:=XC.obj
 obtain ⟨a0,q1⟩:=XO.at I2.hok e1
 have fresh:H2 s2.heap.objs.size=none:=I2.hok.fresh (Nat.le_refl _)
 have ne:ea≠s2.heap.objs.size:=λz=>by rw [z,fresh] at e1; cases e1
 have K2:=I2.kIn
 obtain ⟨hh,g,d,tt,os⟩:=s2
 refine x_set (name:=n) (v:=u) B (K2 _ _ lk) q1 (PySem.W.looks_findIn K2 XC.sa) (PySem.W.looks_findIn K2 nw) λh' t' hn hx hk=>?_
 have lt:ea < hh.objs.size:=Heap.lt_size q1
 have un:Un X.fs [] H2 (upd (upd H2 ea (XO C (some hh.objs.size) tb ea)) hh.objs.size (.xd [(n,y)])) hh h':=by
  have ntr:∀ b,H2 b=none->b≠ea:=λb z q=>by rw [q,e1] at z; cases z
  have hb:∀ b o,hh.get? b=some o->b≠hh.objs.size:=λb o e=>Nat.ne_of_lt (Heap.lt_size e)
  refine ⟨λb o e n0 _ _=>hk b o (ntr b n0) e,λb o e n0 _ _=>⟨o.slots,hk b o (ntr b n0) e⟩,λb o e n0 _=>?_,λb o e _=>?_,λb xs z=>?_,λb o u z=>?_,λb ps z=>⟨#[],?_⟩⟩
  ·rw [q07 (hb b o e),q07 (ntr b n0)]; exact n0
  ·by_cases z:b=ea
   ·subst z; exact ⟨_,hx⟩
   ·exact ⟨o,hk b o z e⟩
  ·rw [q07 (q16 z fresh),q07 (qC3 z e1 (by intro q; cases q))]; exact z
  ·rw [q07 (q16 z fresh),q07 (qC3 z e1 (by intro q; cases q))]; exact z
  ·rw [q07 (q16 z fresh),q07 (qC3 z e1 (by intro q; cases q))]; simpa using z
 have hok:HOk X.prog X.w (upd (upd H2 ea (XO C (some hh.objs.size) tb ea)) hh.objs.size (.xd [(n,y)])) h':=λb o z=>by
  by_cases b1:b=hh.objs.size
  ·subst b1
   rw [q01] at z; cases z
   refine ⟨_,hn,λw'=>?_⟩
   by_cases hw:w'=n
   ·subst hw
    rw [List.lookup_cons,beq_self_eq_true,if_pos rfl]
    exact ry
   ·have hw':(w' == n)=false:=by simpa using hw
    rw [List.lookup_cons,hw',if_neg hw]
    trivial
  ·rw [q07 b1] at z
   by_cases b2:b=ea
   ·subst b2
    rw [q01] at z; cases z
    exact XO.mk hx
   ·rw [q07 b2] at z
    refine (I2.hok b o z).stay (λc u hc q=>hk c u ?_ q) (λc q=>?_) λc xs q=>?_
    ·rcases hc with hc | hc
     ·rw [hc]; exact b2
     ·exact qC3 hc e1 (by intro q; cases q)
    ·rw [q07 (q16 q fresh),q07 (qC3 q e1 (by intro q; cases q))]; exact q
    ·rw [q07 (q16 q fresh),q07 (qC3 q e1 (by intro q; cases q))]; exact q
 exact ⟨σ,_,I2.un (h':=h') (t':=t') un hok,q2 _ fresh⟩
def tXGet (K:PySem.W.Frag)(ta:TE)(n:Str):TE:=λσ H Q=>ta σ H λx H1=>∃ ea C dx tb fs v,x=.ref ea/\H1 ea=some (XO C (some dx) tb ea)/\H1 dx=some (.xd fs)/\fs.lookup n=some v/\XKl K C/\PySem.W.findIn K (.ref C) n=some none/\Q v H1
theorem pe_xget {n:Str}(he:PE X e ta)(hb:attributeBase e n X.env (eval e X.env)=eval e X.env:=by rfl):PE X (.Attribute e n pos) (tXGet X.K ta n):=by
 intro pins s σ H Q I h
 refine qW8 hb (thn (he pins s σ H _ I h) λu s1 ⟨x,H1,I1,rx,ea,C,dx,tb,fs,v,ex,e1,e2,l,XC,nw,q⟩=>?_)
 subst ex
 obtain rfl:u=Value.ref ea:=rx
 obtain ⟨nm,qn,N,bs,bm,sn,sub,ab,col,dd,k0,k1,k2,k3,k5,lk,B⟩:=XC.obj
 obtain ⟨a0,q1⟩:=XO.at I1.hok e1
 obtain ⟨m,hm,hr⟩:=I1.hok dx _ e2
 have rv:=hr n
 rw [l] at rv
 cases z:m n with
 | none=>rw [z] at rv; exact rv.elim
 | some u =>
  rw [z] at rv
  have K1:=I1.kIn
  have J:=I1
  obtain ⟨hh,g,d,tt,os⟩:=s1
  exact x_get B (K1 _ _ lk) q1 hm.ns z (PySem.W.looks_findIn K1 XC.ga) (PySem.W.looks_findIn K1 XC.gn) (PySem.W.looks_findIn K1 nw) (qA6 rv) λt'=>⟨v,H1,J.tok t',rv,q⟩
def tRaise (K:PySem.W.Frag)(te:TE)(E:XK):TS:=λ_ σ H=>te σ H λx H1=>∃ ea C dx,x=.ref ea/\H1 ea=some (XO C (some dx) .none ea)/\XKl K C/\E (.ref C) (some dx) (λb=>if b=ea then none else H1 b)
theorem qm8 (hc:X.calm=true)(hx:q73 (CXE X.prog X.w) X E)(he:PE X e te):PS X (.Raise (some e) none pos) (tRaise X.K te E):=by
 intro pins s σ H D I h
 rw [arm_exec_Raise]
 show wpAny _ _ (standAt pos >>= λ_=>raiseStmt X.env (some (eval e X.env >>= λv=>standAt pos >>= λ_=>pure v)) none) _ _ s
 refine wpAny_bind (wpAny_standAt ?_)
 have key:wpAny (model X.prog X.w) X.A (eval e X.env >>= λv=>standAt pos >>= λ_=>raiseStmt X.env (some (pure v)) none) (SP X pins D) X.xe s:=by
  refine wpAny_bind (thn (he pins s σ H _ I h) λu s1 ⟨x,H1,I1,rx,ea,C,dx,ex,e1,XC,q⟩=>?_)
  subst ex
  obtain rfl:u=Value.ref ea:=rx
  obtain ⟨nm,qn,N,bs,bm,sn,sub,ab,col,dd,k0,k1,k2,k3,k5,lk,B⟩:=XC.obj
  obtain ⟨a0,q1⟩:=XO.at I1.hok e1
  refine wpAny_bind (wpAny_standAt ?_)
  have fin:X.xe (.ref ea) s1:=hx pins σ H1 s1 (.ref ea) s1 I1 ⟨ea,C,dx,.none,_,H1,rfl,rfl,I1.bare,Un.refl,I1.hok,e1,.inl rfl,λb o hb z=>by rw [if_neg hb] at z; exact z,if_pos rfl,q⟩
  have K1:=I1.kIn
  have hd:=I1.ok.hd hc
  obtain ⟨hh,g,d,tt,os⟩:=s1
  exact x_raise B hd (K1 _ _ lk) q1 fin
 have e1:∀ y:Sem Value,raiseStmt X.env (some y) none=y >>= λv=>raiseStmt X.env (some (pure v)) none:=λy=>by
  unfold raiseStmt
  simp only [pure_bind]
 rw [e1,bind_assoc]
 simp only [bind_assoc,pure_bind]
 exact key
end
structure XSub (K:PySem.W.Frag) (C W:Addr):Prop where
 obj:∃(nm q:Str) (N:Addr) (bs bm:List Value) (sn:List Str) (sub:List Value) (ab:Bool) (col:Option Bool) (dd:Option Addr) (k0 k1 k2 k3 k5:Option Value),
  K.lookup C=some (excClassObj nm q C N bs bm true sn sub ab col dd k0 k1 k2 k3 k5 "ValueError.__new__")/\(Value.ref C :: bm).contains (.ref W)=true
section
variable {M:Model}{A:Around}{E:Value->Shared->Prop}{h:Heap}{g:Array GenState}{d:Drawn}{t:Nat}{os:OsState}
variable {nm q nm' q':Str}{C N W N':Addr}{bs bm bs' bm':List Value}{sn sn':List Str}{sub sub':List Value}{ab ab':Bool}{col col':Option Bool}{dd dd':Option Addr}{k0 k1 k2 k3 k5 l0 l1 l2 l3 l5:Option Value}{ea:Addr}{oe:Obj}
theorem x_match {Q:Bool->Shared->Prop}(hC:h.get? C=some (excClassObj nm q C N bs bm true sn sub ab col dd k0 k1 k2 k3 k5 "ValueError.__new__")) (hW:h.get? W=some (excClassObj nm' q' W N' bs' bm' true sn' sub' ab' col' dd' l0 l1 l2 l3 l5 "ValueError.__new__"))
  (B:XBases bm') (hs:(Value.ref C :: bm).contains (.ref W)=true) (he:h.get? ea=some oe) (hc:oe.cls=.ref C) (hq:Q true ⟨h,g,d,t,os⟩):wpAny M A (excMatches (.ref ea) (.ref W)) Q E ⟨h,g,d,t,os⟩:=by
 have c1:(Value.ref W :: bm').contains (.type "BaseException")=true:=by rw [List.contains_cons,B.be,Bool.or_true]
 have f:=tc_notTuple
 unfold excMatches
 repeat (first | (with_reducible refine wpAny_loadPart_at he ?_; rw [hc]) | with_reducible refine wpAny_loadPart_at hW ?_ | (with_reducible refine wpAny_isSubtype_exc hW ?_; rw [c1]) | (with_reducible refine wpAny_isSubtype_exc hC ?_; rw [hs]) | wp_step)
 exact hq
end
abbrev Cx.guard (X:Cx)(pins:List (Addr×Obj))(Ey:Value->Shared->Prop):Cx:={ X with pn:=X.pn ++ pins,xe:=Ey }
abbrev Cx.suite (X:Cx)(ea:Addr):Cx:={ X with A:=X.A.mark (some (.ref ea)),calm:=false,xe:=λ_ _=>False }
section
variable {X:Cx}{pins:List (Addr×Obj)}{σ:St}{H:Hp}{s:Shared}{Ey:Value->Shared->Prop}{ea:Addr}
theorem Cx.Ok.guard (ok:X.Ok):(X.guard pins Ey).Ok:=⟨ok.mod,ok.kind,ok.glob,ok.blt,ok.above,ok.inj,ok.has,ok.cab,ok.hd,ok.frames,ok.stk,ok.exf,ok.bs,ok.bsz,ok.noex,ok.exfs,ok.funs,ok.frf⟩
theorem Cx.Ok.unguard (ok:(X.guard pins Ey).Ok):X.Ok:=⟨ok.mod,ok.kind,ok.glob,ok.blt,ok.above,ok.inj,ok.has,ok.cab,ok.hd,ok.frames,ok.stk,ok.exf,ok.bs,ok.bsz,ok.noex,ok.exfs,ok.funs,ok.frf⟩
theorem Cx.Ok.suite (ok:X.Ok):(X.suite ea).Ok:=⟨ok.mod,ok.kind,ok.glob,ok.blt,ok.above,ok.inj,ok.has,ok.cab,λz=>absurd (show false=true from z) (by decide),ok.frames,ok.stk,ok.exf,ok.bs,ok.bsz,ok.noex,ok.exfs,ok.funs,ok.frf⟩
theorem Inv.guard (I:Inv X pins σ H s):Inv (X.guard pins Ey) [] σ H s:=⟨I.ok.guard,I.os,I.bare,I.base,I.loc,I.cell,I.free,I.freeC,λp hp=>I.pin p (by simpa using hp),I.hok,I.len⟩
theorem Inv.unguard {pins':List (Addr×Obj)}(I:Inv (X.guard pins Ey) pins' σ H s):Inv X pins σ H s:=⟨I.ok.unguard,I.os,I.bare,I.base,I.loc,I.cell,I.free,I.freeC,λp hp=>I.pin p (List.mem_append_left _ hp),I.hok,I.len⟩
theorem Inv.suite (I:Inv X pins σ H s):Inv (X.suite ea) pins σ H s:=⟨I.ok.suite,I.os,I.bare,I.base,I.loc,I.cell,I.free,I.freeC,I.pin,I.hok,I.len⟩
theorem Inv.unsuite (ok:X.Ok)(I:Inv (X.suite ea) pins σ H s):Inv X pins σ H s:=⟨ok,I.os,I.bare,I.base,I.loc,I.cell,I.free,I.freeC,I.pin,I.hok,I.len⟩
def blank (n:Nat):St:=List.replicate n none
theorem Inv.blank (I:Inv X pins σ H s):Inv X pins (L2.blank X.N.length) H s:=I.weak (by unfold L2.blank; rw [List.length_replicate,I.len]) λi v e=>by
 unfold L2.blank at e
 rw [List.getElem?_replicate] at e
 split at e <;> cases e
theorem Inv.lost {h':Heap}{tk:Nat}{m:Str->Option Value}(I:Inv X pins σ H s)(hn:h'.Ns X.env.locals m)(hs:Heap.SameBut X.env.locals s.heap h'):Inv X pins (L2.blank X.N.length) H { s with heap:=h',toks:=tk }:=by
 have neL:∀ b o,X.s₀.heap.get? b=some o->b≠X.env.locals:=λb o e=>Nat.ne_of_lt (Nat.lt_of_lt_of_le (Heap.lt_size e) I.ok.above)
 refine ⟨I.ok,I.os,I.bare,⟨λb o e n hb hx=>?_,λb o e n hb hx=>?_,I.base.free,λb o e hx=>?_,I.base.tups,I.base.frzs,I.base.tbls⟩,⟨m,hn,λi x v _ e2=>?_⟩,λx c e=>?_,I.free,I.freeC,λp hp=>?_,λb o e=>?_,by unfold L2.blank; rw [List.length_replicate]⟩
 ·exact (hs.2 b (neL b o e)).trans (I.base.keep b o e n hb hx)
 ·obtain ⟨sl,q⟩:=I.base.slot b o e n hb hx
  exact ⟨sl,(hs.2 b (neL b o e)).trans q⟩
 ·obtain ⟨o',q⟩:=I.base.there b o e hx
  exact ⟨o',(hs.2 b (neL b o e)).trans q⟩
 ·unfold L2.blank at e2
  rw [List.getElem?_replicate] at e2
  split at e2 <;> cases e2
 ·obtain ⟨v,q⟩:=I.cell x c e
  exact ⟨v,q.sameBut hs (I.cne x c e)⟩
 ·obtain ⟨e,n,ne,nf,d⟩:=I.pin p hp
  exact ⟨(hs.2 p.1 ne).trans e,n,ne,nf,d⟩
 ·refine (I.hok b o e).stay (λc u hc q=>(hs.2 c ?_).trans q) (λ_ q=>q) λ_ _ q=>q
  rintro rfl
  rcases hc with z | z
  ·rw [<- z,I.free] at e; cases e
  ·rw [I.free] at z; cases z
end
def Ends.behind (D:Ends)(n:Nat):Ends:={ nx:=λ_ H=>D.nx (blank n) H,rt:=D.rt,bk:=λ_ H=>D.bk (blank n) H,ct:=λ_ H=>D.ct (blank n) H }
def tTry (K:PySem.W.Frag)(n W:Nat)(Eh:XK)(i:Nat)(tb th:TS):TS:=λD σ H=>tb D σ H/\∀(C dx:Addr) (H0:Hp) (ea T:Addr) (H':Hp),Eh (.ref C) (some dx) H0->z60 ea H0 H'->H0 ea=none->H' ea=some (XO C (some dx) (.ref T) ea) ->
 XSub K C W/\th (D.behind n) ((blank n).set i (some (.ref ea))) H'
section
variable {X:Cx}
theorem ps_try {body suite:List Stmt}{b₀:Stmt}{pW hpos pos:Pos}{xW x:Str}{W:Addr}{i:Nat}{Eh:XK}{tb th:TS}(hst:X.stack=X.env :: X.outer)(hL:X.env.frame=some X.env.locals)(hN:X.N.Nodup)(hx:X.N[i]? = some x)(hl:X.env.kindOf x=some .local)
  (hg:Gl X xW) (hm:X.mg xW=some (.ref W)) (XW:XKl X.K W) (hb:∀ pins Ey,q73 (CXE X.prog X.w) (X.guard pins Ey) Eh->PSs (X.guard pins Ey) body tb) (hh:∀ ea,PSs (X.suite ea) (b₀ :: suite) th) (hdb:(xW == ("__debug__" : Str))=false:=by decide) :
  PS X (.Try body [.ExceptHandler (some (.Name xW pW)) (some x) (b₀ :: suite) hpos] [] [] pos) (tTry X.K X.N.length W Eh i tb th):=by
 intro pins s σ H D I h
 obtain ⟨h1,h2⟩:=h
 have hfr:X.A.frames=some (X.env :: X.outer):=by rw [I.ok.frames,hst]
 refine wpAny_Try_except ?_
 have pass:q73 (CXE X.prog X.w) (X.guard pins λe s₁=>wpAny (model X.prog X.w) X.A (noteFrame e X.env) (λ_ s₂=>wpAny (model X.prog X.w) X.A (setFlight e none) (λ_ s₃=>wpAny (model X.prog X.w) X.A (handleBy e X.env [.ExceptHandler (some (.Name xW pW)) (some x) (b₀ :: suite) hpos]) (SP X pins D) X.xe s₃) X.xe s₂) X.xe s₁) Eh:=by
  intro pins1 σ1 H1 s1 e s2 I1 hce
  obtain ⟨ea,C,dx,tb',H0,H2,rfl,os,bare,un,hok,e1,ht,sx,n0,q⟩:=hce
  have J:=(I1.call' (ch:=[]) os un hok bare λb z=>absurd z (by simp)).unguard
  refine qR6 hst hL J e1 ht λs3 ⟨T,nT,neT,J3⟩=>?_
  have e3:upd (upd H2 T (TB (rawInt X.env.locals) T)) ea (XO C (some dx) (.ref T) ea) ea=some (XO C (some dx) (.ref T) ea):=q01
  have t3:upd (upd H2 T (TB (rawInt X.env.locals) T)) ea (XO C (some dx) (.ref T) ea) T=some (TB (rawInt X.env.locals) T):=by rw [q07 neT,q01]
  refine qq4 J3 e3 t3 λs4 J4=>?_
  generalize hH4:upd (upd (upd H2 T (TB (rawInt X.env.locals) T)) ea (XO C (some dx) (.ref T) ea)) T (TB .none T)=H4 at J4
  have e4:H4 ea=some (XO C (some dx) (.ref T) ea):=by rw [<- hH4,q07 (Ne.symm neT)]; exact e3
  have t4:H4 T=some (TB .none T):=by rw [<- hH4]; exact q01
  have sx4:z60 ea H0 H4:=λb o hb z=>by
   have hT:b≠T:=q16 (sx b o hb z) nT
   rw [<- hH4,q07 hT,q07 hb,q07 hT]
   exact sx b o hb z
  obtain ⟨sub,qh⟩:=h2 C dx H0 ea T H4 q sx4 n0 e4
  obtain ⟨nm,qn,N,bs,bm,sn,sb,ab,col,dd,k0,k1,k2,k3,k5,lk,cW⟩:=sub.obj
  obtain ⟨nm',qn',N',bs',bm',sn',sb',ab',col',dd',l0,l1,l2,l3,l5,lk',BW⟩:=XW.obj
  refine wpAny_handleBy_cons (codeAny_handlers_test ?_) (by intro z; cases z)
  have J5:Inv (X.suite ea) pins σ1 H4 s4:=J4.suite
  refine qh2 J5 hg hm ?_ hdb
  obtain ⟨a0,q4⟩:=XO.at J4.hok e4
  have K4:=J4.kIn
  have J6:=J4.blank
  obtain ⟨hh4,g4,d4,tk4,os4⟩:=s4
  refine x_match (K4 _ _ lk) (K4 _ _ lk') BW cW q4 rfl ?_
  refine codeAny_handlers_suite_as ?_
  refine qq4 J4 e4 t4 λs5 J7=>?_
  rw [qM8 t4] at J7
  refine qt7 J7.blank hN hx (.inl hl) (v:=.ref ea) rfl (λs6 J8=>?_) (.inr hl)
  refine wpAny_mono (hh ea pins s6 _ H4 _ (J8.suite (ea:=ea)) qh) (λfl s7 q7=>?_) λ_ _ z=>z.elim
  have done:∀{σ7:St} {H7:Hp},Inv (X.suite ea) pins σ7 H7 s7->∀ R:St->Hp->Flow->Prop,R (blank X.N.length) H7 fl->(∀ s8,Inv X pins (blank X.N.length) H7 s8->R (blank X.N.length) H7 fl->SP X pins D fl s8) ->
    wpAny (model X.prog X.w) X.A (do bindName X.env x .none; unbindBehindTheSuite X.env x hpos) (λ_ s8=>SP X pins D fl s8) X.xe s7:=λ{σ7 H7} J R r k=>by
   have J':=J.unsuite I.ok
   obtain ⟨m,hm',_⟩:=id J'.loc
   refine wpAny_nameGoes hl hm' (by rw [I.ok.kind]; rfl) λh8 m8 hn8 hs8=>?_
   exact k _ (J'.lost hn8 hs8) r
  cases fl with
  | next =>
   obtain ⟨σ7,H7,J9,r⟩:=q7
   exact done J9 (λσ H _=>D.nx σ H) r λs8 J10 r=>⟨_,_,J10,r⟩
  | brk =>
   obtain ⟨σ7,H7,J9,r⟩:=q7
   exact done J9 (λσ H _=>D.bk σ H) r λs8 J10 r=>⟨_,_,J10,r⟩
  | cont =>
   obtain ⟨σ7,H7,J9,r⟩:=q7
   exact done J9 (λσ H _=>D.ct σ H) r λs8 J10 r=>⟨_,_,J10,r⟩
  | ret u =>
   obtain ⟨v,σ7,H7,J9,ru,r⟩:=q7
   exact done J9 (λ_ H _=>D.rt v H) r λs8 J10 r=>⟨v,_,_,J10,ru,r⟩
 refine wpAny_mono (hb pins _ pass [] s σ H D I.guard h1) (λfl s1 q=>?_) λ_ _ z=>z
 have un:SP X pins D fl s1:=by
  cases fl with
  | next=>obtain ⟨σ',H',J,r⟩:=q; exact ⟨σ',H',J.unguard,r⟩
  | brk=>obtain ⟨σ',H',J,r⟩:=q; exact ⟨σ',H',J.unguard,r⟩
  | cont=>obtain ⟨σ',H',J,r⟩:=q; exact ⟨σ',H',J.unguard,r⟩
  | ret u=>obtain ⟨v,σ',H',J,ru,r⟩:=q; exact ⟨v,σ',H',J.unguard,ru,r⟩
 cases fl with
 | next=>exact wpAny_execs_nil un
 | brk=>exact un
 | cont=>exact un
 | ret u=>exact un
end
theorem nea {a b:Nat}(h:¬ a=b):(a:Addr)≠b:=h
def StrIt (h:Heap)(a:Addr)(x:Str)(i:Nat):Prop:=∃ ty t,h.IsStrIter a ty x t i/\(ty = "str_ascii_iterator" ∨ ty = "str_iterator")
theorem StrIt.at {h h':Heap}{a:Addr}{x:Str}{i:Nat}(st:StrIt h a x i)(k:∀ o,h.get? a=some o->h'.get? a=some o):StrIt h' a x i:=by
 obtain ⟨ty,t,⟨o,e,r⟩,z⟩:=st
 exact ⟨ty,t,⟨o,k o e,r⟩,z⟩
theorem StrIt.obj {h:Heap}{a:Addr}{x:Str}{i:Nat}(st:StrIt h a x i):∃ o,h.get? a=some o/\∀ v,o.data≠.cell v:=by
 obtain ⟨ty,t,⟨o,e,c,d⟩,z⟩:=st
 exact ⟨o,e,λv q=>by rw [d] at q; cases q⟩
section
variable {prog:Program}{w:World}{A:Around}{E:Value->Shared->Prop}{s:Shared}{a:Addr}{x:Str}{i c:Nat}
theorem qA1 {Q:Value->Shared->Prop}(st:StrIt s.heap a x i)(hx:x.cps[i]? = some c)(hQ:∀ h' t tk,StrIt h' a x (i + 1)->Heap.SameBut a s.heap h'->Q (.str ⟨#[c]⟩ t) { s with heap:=h',toks:=tk }) :
  wpAny (model prog w) A (Builtin.SmallTypes.nextOf (.ref a)) Q E s:=by
 obtain ⟨ty,t,it,z⟩:=st
 rcases z with rfl | rfl
 ·exact wpAny_nextOf_ascii_item it hx λh' st' sb=>hQ h' _ _ ⟨_,t,st',.inl rfl⟩ sb
 ·exact wpAny_nextOf_wide_item it hx λh' st' sb=>hQ h' _ _ ⟨_,t,st',.inr rfl⟩ sb
theorem qp6 {Q:Value->Shared->Prop}(hh:A.handled=none)(st:StrIt s.heap a x i)(hx:x.cps[i]? = none)
  (hE:∀ h' e,Heap.ExtBut a s.heap h'->(∃ o,h'.get? e=some o/\o.cls=.type "StopIteration")->E (.ref e) { s with heap:=h' }) :
  wpAny (model prog w) A (Builtin.SmallTypes.nextOf (.ref a)) Q E s:=by
 obtain ⟨ty,t,it,z⟩:=st
 rcases z with rfl | rfl
 ·exact wpAny_nextOf_ascii_end hh it hx hE
 ·exact wpAny_nextOf_wide_end hh it hx hE
theorem iterStr {t:Tok}{Q:Value->Shared->Prop}(h:∀ o:Obj,StrIt (s.heap.push o) s.heap.objs.size x 0->Q (.ref s.heap.objs.size) { s with heap:=s.heap.push o }):wpAny (model prog w) A (pyIter (.str x t)) Q E s:=by
 refine wpAny_pyIter_strU (h _ ?_)
 have e:=Heap.get?_push_size s.heap (o:={ cls:=.type (strIterType x),data:=.fields #[.str x t,.int 0 0] }) rfl
 refine ⟨strIterType x,t,⟨_,e,rfl,rfl⟩,?_⟩
 unfold strIterType
 split
 ·exact .inl rfl
 ·exact .inr rfl
end
structure Z3 (n:Nat) (x y z:Str) (i:Nat) (f0:Value) (h:Heap):Prop where
 zz:h.get? (n + 5)=some { cls:=.type "zip",dict:=none,data:=.fields #[f0,.bool false,.bool false,.ref (n + 3),.ref (n + 4)],slots:=#[] }
 ti:h.get? (n + 3)=some { cls:=.type "tuple",data:=.seq #[.ref n,.ref (n + 1),.ref (n + 2)] }
 to:∃ a b c,h.get? (n + 4)=some { cls:=.type "tuple",data:=.seq #[a,b,c] }
 i1:StrIt h n x i
 i2:StrIt h (n + 1) y i
 i3:StrIt h (n + 2) z i
structure Z2 (n:Nat) (x y:Str) (i:Nat) (f0:Value) (h:Heap):Prop where
 zz:h.get? (n + 4)=some { cls:=.type "zip",dict:=none,data:=.fields #[f0,.bool false,.bool false,.ref (n + 2),.ref (n + 3)],slots:=#[] }
 ti:h.get? (n + 2)=some { cls:=.type "tuple",data:=.seq #[.ref n,.ref (n + 1)] }
 to:∃ a b,h.get? (n + 3)=some { cls:=.type "tuple",data:=.seq #[a,b] }
 i1:StrIt h n x i
 i2:StrIt h (n + 1) y i
section
variable {prog:Program}{w:World}{A:Around}{E:Value->Shared->Prop}{s:Shared}{n:Nat}{x y z:Str}{i c1 c2 c3:Nat}
end
section
variable {X:Cx}{pins:List (Addr×Obj)}{σ:St}{H:Hp}{s:Shared}{h':Heap}{t':Nat}{fp:List Addr}
theorem Inv.turnedL (I:Inv X pins σ H s)(hf:∀ b∈fp,qj5 X pins H b)(k:∀ b o,b∉fp->s.heap.get? b=some o->h'.get? b=some o):Inv X pins σ H { s with heap:=h',toks:=t' }:=by
 have ntr:∀ b u,H b=some u->b∉fp:=λb u e hb=>by rw [(hf b hb).1] at e; cases e
 refine I.step (g':=s.gens) (d':=s.drawn) (ch:=fp) (λb hb=>?_) (λb o _ _ hc e _=>k b o hc e) (λb o _ _ hc e _=>⟨o.slots,k b o hc e⟩) (λ_ _ _ _ n=>n) (λb o hc e=>⟨o,k b o hc e⟩) (λ_ _ e=>e) (λ_ _ _ e=>e) (λb ps e=>⟨#[],by rw [e]; simp⟩) (λm hm=>?_) (λb u e=>?_) I.bare
 ·obtain ⟨_,f1,_,f3,f4,f5⟩:=hf b hb
  exact ⟨f3,f1,f4,f5⟩
 ·obtain ⟨o,es,ep,ho,r⟩:=hm
  exact ⟨o,es,ep,k _ o (λz=>(hf _ z).2.1 rfl) ho,r⟩
 ·refine (I.hok b u e).stay (λc v hc q=>k c v ?_ q) (λ_ q=>q) λ_ _ q=>q
  rcases hc with z | z
  ·rw [z]; exact ntr b u e
  ·exact ntr c _ z
theorem Inv.turnLaid {T:Addr}{o:HO}(I:Inv X pins σ H s)(hf:∀ b∈fp,qj5 X pins H b)(k:∀ b o,b∉fp->s.heap.get? b=some o->h'.get? b=some o)(hT:s.heap.objs.size<=T)(hT2:T∉fp)
  (new:ObjOk X.prog X.w (upd H T o) h' T o):Inv X pins σ (upd H T o) { s with heap:=h',toks:=t' }:=by
 have hn:H T=none:=I.hok.fresh hT
 have ntr:∀ b u,H b=some u->b∉fp:=λb u e hb=>by rw [(hf b hb).1] at e; cases e
 have neT:∀ b (u:Obj),s.heap.get? b=some u->b≠T:=λb u e=>Nat.ne_of_lt (Nat.lt_of_lt_of_le (Heap.lt_size e) hT)
 refine I.step (g':=s.gens) (d':=s.drawn) (ch:=fp) (λb hb=>?_) (λb o _ _ hc e _=>k b o hc e) (λb o _ _ hc e _=>⟨o.slots,k b o hc e⟩) (λb u _ e n=>by rw [q07 (neT b u e)]; exact n) (λb o hc e=>⟨o,k b o hc e⟩)
  (λb xs e=>by rw [q07 (q16 e hn)]; exact e) (λb ob u e=>by rw [q07 (q16 e hn)]; exact e) (λb ps e=>⟨#[],by rw [q07 (q16 e hn),e]; simp⟩) (λm hm=>?_) (λb u e=>?_) I.bare
 ·obtain ⟨_,f1,_,f3,f4,f5⟩:=hf b hb
  exact ⟨f3,f1,f4,f5⟩
 ·obtain ⟨o,es,ep,ho,r⟩:=hm
  exact ⟨o,es,ep,k _ o (λz=>(hf _ z).2.1 rfl) ho,r⟩
 ·by_cases hb:b=T
  ·subst hb; rw [q01] at e; cases e; exact new
  ·rw [q07 hb] at e
   refine (I.hok b u e).stay (λc v hc q=>k c v ?_ q) (λc q=>by rw [q07 (q16 q hn)]; exact q) λc xs q=>by rw [q07 (q16 q hn)]; exact q
   rcases hc with z | z
   ·rw [z]; exact ntr b u e
   ·exact ntr c _ z
end
def sg (x:Str)(i:Nat):V:=.str ⟨#[x.cps.getD i 0]⟩
theorem sg_at {x:Str}{i:Nat}(h:i < x.length):x.cps[i]? = some (x.cps.getD i 0):=by
 have h':i < x.cps.size:=h
 simp [Array.getD_eq_getD_getElem?,h']
def Its (x:Str):It:=⟨λi _=>i < x.length,λi H v H'=>H'=H/\v=sg x i,λi _=>x.length<=i⟩
section
variable {P:Program}{w:World}{K:PySem.W.Frag}
theorem qY2 {tg:Expr}(x:Str)(it:Addr):Turn P w K tg (Its x) [it] it (λi h=>StrIt h it x i) where
 mem:=by simp
 obj:=λi h st b hb=>by
  have e:b=it:=by simpa using hb
  subst e
  exact st.obj
 keep:=λi h h' st k=>st.at λo e=>k it (by simp) o e
 item:=by
  intro X hP hw hK hc i pins s σ H E I hf st hg
  subst hP hw hK
  obtain ⟨f0,f1,f2,f3,f4,f5⟩:=hf it (by simp)
  obtain ⟨ty,t,st,z⟩:=st
  have fin:∀ h' t' tk,(z:ty = "str_ascii_iterator" ∨ ty = "str_iterator")->h'.IsStrIter it ty x t (i + 1)->Heap.SameBut it s.heap h'->∃ u,some (Value.str ⟨#[x.cps.getD i 0]⟩ t')=some u /\
    wpAny (model X.prog X.w) X.A (letOwnedTupleGo tg (.ref it) u) (λ_ s2=>∃ v H',Inv X pins σ H' s2/\RelV v u/\(Its x).yld i H v H'/\StrIt s2.heap it x (i + 1)/\∀ b∈[it],H' b=none) E { s with heap:=h',toks:=tk }:=by
   intro h' t' tk z st' sb
   have I1:Inv X pins σ H { s with heap:=h',toks:=tk }:=I.turned (λb o hb e=>(sb.2 b hb).trans e) f0 f1 f3 f4 f5
   obtain ⟨o,e,c,d⟩:=id st'
   exact ⟨_,rfl,qU2 (s:={ s with heap:=h',toks:=tk }) e c d (by rcases z with rfl | rfl <;> decide) ⟨sg x i,H,I1,⟨t',rfl⟩,⟨rfl,rfl⟩,⟨ty,t,st',z⟩,λb hb=>(hf b hb).1⟩⟩
  rcases z with rfl | rfl
  ·exact wpAny_pyNext_ascii_item st (sg_at hg) λh' st' sb=>fin h' _ _ (.inl rfl) st' sb
  ·exact wpAny_pyNext_wide_item st (sg_at hg) λh' st' sb=>fin h' _ _ (.inr rfl) st' sb
 done:=by
  intro X hP hw hK hc i pins s σ H E I hf st hg
  subst hP hw hK
  obtain ⟨f0,f1,f2,f3,f4,f5⟩:=hf it (by simp)
  have hx:x.cps[i]? = none:=Array.getElem?_eq_none hg
  obtain ⟨ty,t,st,z⟩:=st
  rcases z with rfl | rfl
  ·exact wpAny_pyNext_ascii_end (I.ok.hd hc) st hx λh' eb=>⟨rfl,I.turned (t':=s.toks) (λb o hb e=>eb b o hb e) f0 f1 f3 f4 f5⟩
  ·exact wpAny_pyNext_wide_end (I.ok.hd hc) st hx λh' eb=>⟨rfl,I.turned (t':=s.toks) (λb o hb e=>eb b o hb e) f0 f1 f3 f4 f5⟩
 self:=λA i s Q E st h=>by
  obtain ⟨ty,t,st,z⟩:=st
  rcases z with rfl | rfl
  ·exact wpAny_pyIter_striter_ascii st h
  ·exact wpAny_pyIter_striter_wide st h
end
section
variable {X:Cx}
def iStr (tl:TE):TI:=λσ H R=>tl σ H λx H1=>∃ z,x=.str z/\R (Its z) H1
theorem qm2 {tg l:Expr}{tl:TE}(hl:PE X l tl):PI X tg l (iStr tl):=by
 intro pins s σ H R I h
 refine thn (hl pins s σ H _ I h) λv s1 ⟨x,H1,I1,r1,q1⟩=>?_
 obtain ⟨z,rfl,q⟩:=q1
 obtain ⟨t,rfl⟩:=r1
 refine iterStr λo st=>?_
 refine ⟨s1.heap.objs.size,[s1.heap.objs.size],_,_,H1,rfl,I1.kept (t':=s1.toks) λb o e=>Heap.get?_push_of_some _ e,qY2 z _,st,λb hb=>?_,q⟩
 have e:b=s1.heap.objs.size:=by simpa using hb
 subst e
 exact I1.fpOk (Nat.le_refl _) (I1.hok.fresh (Nat.le_refl _))
inductive Kd where
 | non | bl | int | str | lst | tup
 deriving DecidableEq
def kdIs (K:PySem.W.Frag)(H:Hp):V->Kd->Prop
 | .non,.non=>True
 | .bl _,.bl=>True
 | .int _,.int=>True
 | .str _,.str=>True
 | .ref a,.lst=>∃ xs,SqL K H a xs
 | .ref a,.tup=>∃ xs,SqT K H a xs
 | _,_=>False
def isT:Kd->String->Option Bool
 | .non, "str" => some false | .non, "int" => some false | .non, "bool" => some false | .non, "list" => some false | .non, "tuple" => some false
 | .bl, "str" => some false | .bl, "int" => some true | .bl, "bool" => some true | .bl, "list" => some false | .bl, "tuple" => some false
 | .int, "str" => some false | .int, "int" => some true | .int, "bool" => some false | .int, "list" => some false | .int, "tuple" => some false
 | .str, "str" => some true | .str, "int" => some false | .str, "bool" => some false | .str, "list" => some false | .str, "tuple" => some false
 | .lst, "str" => some false | .lst, "int" => some false | .lst, "bool" => some false | .lst, "list" => some true | .lst, "tuple" => some false
 | .tup, "str" => some false | .tup, "int" => some false | .tup, "bool" => some false | .tup, "list" => some false | .tup, "tuple" => some true
 | _,_=>none
theorem q63:qj3 X (.builtin "isinstance") (λxs H Q=>∃ x k T b,xs=[x,.ty T]/\kdIs X.K H x k/\isT k T=some b/\Q (.bl b) H):=by
 intro pins s σ H xs us Q I r h
 obtain ⟨x,k,T,b,rfl,hk,ht,q⟩:=h
 obtain ⟨u,v,rfl,ru,rv⟩:=r.two
 cases rv
 have J:∀ t,EP X pins σ Q (.bool b) { s with toks:=t }:=λt=>⟨.bl b,H,I.tok t,rfl,q⟩
 have J0:EP X pins σ Q (.bool b) s:=⟨.bl b,H,I,rfl,q⟩
 have lst:∀ a ys,SqL X.K H a ys->∃ o,s.heap.get? a=some o/\o.cls=.type "list" := λa ys hq=>by
  obtain ⟨its,_,⟨o,n,e,c,_⟩,_⟩:=I.list hq
  exact ⟨o,e,c⟩
 have tup:∀ a ys,SqT X.K H a ys->∃ o,s.heap.get? a=some o/\o.cls=.type "tuple" := λa ys hq=>by
  obtain ⟨its,_,⟨o,e,c,_⟩,_⟩:=I.tuple hq
  exact ⟨o,e,c⟩
 unfold isT at ht
 split at ht <;> cases ht <;> cases x <;> first | exact hk.elim | skip
 ·cases ru; exact IsiPair.NoneType_str (J _)
 ·cases ru; exact IsiPair.NoneType_int (J _)
 ·cases ru; exact IsiPair.NoneType_bool (J _)
 ·cases ru; exact IsiPair.NoneType_list (J _)
 ·cases ru; exact IsiPair.NoneType_tuple (J _)
 ·cases ru; exact IsiPair.bool_str (J _)
 ·cases ru; exact IsiPair.bool_int J0
 ·cases ru; exact IsiPair.bool_bool J0
 ·cases ru; exact IsiPair.bool_list (J _)
 ·cases ru; exact IsiPair.bool_tuple (J _)
 ·obtain ⟨t,rfl⟩:=ru; exact IsiPair.int_str (J _)
 ·obtain ⟨t,rfl⟩:=ru; exact IsiPair.int_int J0
 ·obtain ⟨t,rfl⟩:=ru; exact IsiPair.int_bool (J _)
 ·obtain ⟨t,rfl⟩:=ru; exact IsiPair.int_list (J _)
 ·obtain ⟨t,rfl⟩:=ru; exact IsiPair.int_tuple (J _)
 ·obtain ⟨t,rfl⟩:=ru; exact IsiPair.str_str J0
 ·obtain ⟨t,rfl⟩:=ru; exact IsiPair.str_int (J _)
 ·obtain ⟨t,rfl⟩:=ru; exact IsiPair.str_bool (J _)
 ·obtain ⟨t,rfl⟩:=ru; exact IsiPair.str_list (J _)
 ·obtain ⟨t,rfl⟩:=ru; exact IsiPair.str_tuple (J _)
 ·cases ru; obtain ⟨ys,hq⟩:=hk; obtain ⟨o,e,c⟩:=lst _ _ hq; exact IsiPair.list_str e c (J _)
 ·cases ru; obtain ⟨ys,hq⟩:=hk; obtain ⟨o,e,c⟩:=lst _ _ hq; exact IsiPair.list_int e c (J _)
 ·cases ru; obtain ⟨ys,hq⟩:=hk; obtain ⟨o,e,c⟩:=lst _ _ hq; exact IsiPair.list_bool e c (J _)
 ·cases ru; obtain ⟨ys,hq⟩:=hk; obtain ⟨o,e,c⟩:=lst _ _ hq; exact IsiPair.list_list e c J0
 ·cases ru; obtain ⟨ys,hq⟩:=hk; obtain ⟨o,e,c⟩:=lst _ _ hq; exact IsiPair.list_tuple e c (J _)
 ·cases ru; obtain ⟨ys,hq⟩:=hk; obtain ⟨o,e,c⟩:=tup _ _ hq; exact IsiPair.tuple_str e c (J _)
 ·cases ru; obtain ⟨ys,hq⟩:=hk; obtain ⟨o,e,c⟩:=tup _ _ hq; exact IsiPair.tuple_int e c (J _)
 ·cases ru; obtain ⟨ys,hq⟩:=hk; obtain ⟨o,e,c⟩:=tup _ _ hq; exact IsiPair.tuple_bool e c (J _)
 ·cases ru; obtain ⟨ys,hq⟩:=hk; obtain ⟨o,e,c⟩:=tup _ _ hq; exact IsiPair.tuple_list e c (J _)
 ·cases ru; obtain ⟨ys,hq⟩:=hk; obtain ⟨o,e,c⟩:=tup _ _ hq; exact IsiPair.tuple_tuple e c J0
theorem qB5:∀{bs:List Bool}{us:List Value},Vals (bs.map V.bl) us->us=bs.map Value.bool
 | [],_,h=>by cases h; rfl
 | b :: r,us,h=>by
  cases h with
  | cons r1 r2=>cases r1; rw [qB5 r2]; rfl
theorem qX0:∀(bs:List Bool),((List.range bs.length).all λi=>bs.getD i false)=bs.all id:=λbs=>by
 have e:(List.range bs.length).map (λi=>bs.getD i false)=bs:=by
  apply List.ext_getElem
  ·simp
  ·intro i h1 h2
   simp at h1
   simp [h1]
 conv=>rhs; rw [<- e]
 rw [List.all_map]; rfl
theorem qW9:∀(bs:List Bool),((List.range bs.length).any λi=>bs.getD i false)=bs.any id:=λbs=>by
 have e:(List.range bs.length).map (λi=>bs.getD i false)=bs:=by
  apply List.ext_getElem
  ·simp
  ·intro i h1 h2
   simp at h1
   simp [h1]
 conv=>rhs; rw [<- e]
 rw [List.any_map]; rfl
theorem qE6 {prog:Program}{w:World}{A:Around}(bs:List Bool):TruthOf prog w A (λi v=>((bs.map Value.bool).toArray)[i]? = some v) (λi=>bs.getD i false):=by
 intro i v s Q E hP hQ
 have hP:(bs.map Value.bool)[i]? = some v:=by simpa using hP
 rw [List.getElem?_map] at hP
 cases e:bs[i]? with
 | none=>rw [e] at hP; cases hP
 | some b =>
  rw [e] at hP
  cases hP
  refine wpAny_truthy_bool ?_
  have:bs.getD i false=b:=by rw [List.getD_eq_getElem?_getD,e]; rfl
  have hQ:Q (bs.getD i false) s:=hQ
  rw [this] at hQ
  exact hQ
theorem q90 (hc:X.calm=true):qj3 X (.builtin "all") (λxs H Q=>∃(a:Addr) (bs:List Bool),xs=[.ref a]/\SqL X.K H a (bs.map V.bl)/\Q (.bl (bs.all id)) H):=by
 intro pins s σ H xs us Q I r h
 obtain ⟨a,bs,rfl,hq,q⟩:=h
 obtain ⟨u,rfl,ru⟩:=r.one
 cases ru
 obtain ⟨its,rv,p,hz⟩:=I.list hq
 have ei:=qB5 rv
 subst ei
 refine call_all_walk (wpAny_pyIter_list p.isList ?_)
 have ne:a≠s.heap.objs.size:=by obtain ⟨o,n,e,_⟩:=p; exact Nat.ne_of_lt (Heap.lt_size e)
 have hh:X.A.in1.handled=none:=I.ok.hd hc
 refine ⟨s.heap.objs.size,_,_,_,_,_,_,rfl,Walks.list hh _ a ne (bs.map Value.bool).toArray,⟨⟨_,Heap.get?_push_size _ rfl,rfl,rfl⟩,p.isList.push _⟩,qE6 bs,λh' tk kk=>?_⟩
 have e2:(List.range (bs.map Value.bool).toArray.size).all (λi=>bs.getD i false)=bs.all id:=by
  rw [List.size_toArray,List.length_map]; exact qX0 bs
 rw [e2]
 exact ⟨.bl (bs.all id),H,I.kept λb o e=>kk b o (λz=>by
  have z:b=s.heap.objs.size:=by simpa using z
  exact absurd (Heap.lt_size e) (by rw [z]; exact Nat.lt_irrefl _)) (Heap.get?_push_of_some _ e),rfl,q⟩
theorem z57 (hc:X.calm=true):qj3 X (.builtin "any") (λxs H Q=>∃(a:Addr) (bs:List Bool),xs=[.ref a]/\SqL X.K H a (bs.map V.bl)/\Q (.bl (bs.any id)) H):=by
 intro pins s σ H xs us Q I r h
 obtain ⟨a,bs,rfl,hq,q⟩:=h
 obtain ⟨u,rfl,ru⟩:=r.one
 cases ru
 obtain ⟨its,rv,p,hz⟩:=I.list hq
 have ei:=qB5 rv
 subst ei
 refine call_any_walk (wpAny_pyIter_list p.isList ?_)
 have ne:a≠s.heap.objs.size:=by obtain ⟨o,n,e,_⟩:=p; exact Nat.ne_of_lt (Heap.lt_size e)
 have hh:X.A.in1.handled=none:=I.ok.hd hc
 refine ⟨s.heap.objs.size,_,_,_,_,_,_,rfl,Walks.list hh _ a ne (bs.map Value.bool).toArray,⟨⟨_,Heap.get?_push_size _ rfl,rfl,rfl⟩,p.isList.push _⟩,qE6 bs,λh' tk kk=>?_⟩
 have e2:(List.range (bs.map Value.bool).toArray.size).any (λi=>bs.getD i false)=bs.any id:=by
  rw [List.size_toArray,List.length_map]; exact qW9 bs
 rw [e2]
 exact ⟨.bl (bs.any id),H,I.kept λb o e=>kk b o (λz=>by
  have z:b=s.heap.objs.size:=by simpa using z
  exact absurd (Heap.lt_size e) (by rw [z]; exact Nat.lt_irrefl _)) (Heap.get?_push_of_some _ e),rfl,q⟩
theorem qx4:∀{ys:List Str}{us:List Value},Vals (ys.map V.str) us->StrsAre us ys
 | [],_,h=>by cases h; exact .nil
 | y :: r,us,h=>by
  cases h with
  | cons r1 r2=>obtain ⟨t,rfl⟩:=r1; exact .cons y t (qx4 r2)
def rJoin (K:PySem.W.Frag):V->List V->Hp->VK->Prop:=λx vs H Q=>∃ sep a ys,x=.str sep/\vs=[.ref a]/\SqL K H a (ys.map V.str)/\sep.length<=16/\(ys.map (·.length)).sum + ys.length<=1048576/\Q (.str (Txt.join sep ys)) H
theorem mt_join:MtR X "str.join" (rJoin X.K):=by
 intro pins s σ H x vs v us Q I rx rv h
 obtain ⟨sep,a,ys,rfl,rfl,hq,h1,h2,q⟩:=h
 obtain ⟨t,rfl⟩:=rx
 obtain ⟨u,rfl,ru⟩:=rv.one
 cases ru
 obtain ⟨its,rv,p,hz⟩:=I.list hq
 exact join_listW p.isList (by simpa using qx4 rv) h1 h2 λt' k=>⟨.str _,H,I.tok k,⟨t',rfl⟩,q⟩
def qy0 (z:Str)(n:Int):Str:=if n < 1 then Str.empty else if (n == 1 || z.length == 0)=true then z else ⟨(List.replicate n.toNat z.cps).foldl (· ++ ·) #[]⟩
theorem qs8 (a:Array Nat):∀(k:Nat) (b:Array Nat),((List.replicate k a).foldl (· ++ ·) b).size=b.size + k * a.size
 | 0,b=>by simp
 | k + 1,b=>by
  rw [List.replicate_succ,List.foldl_cons,qs8 a k]
  rw [Array.size_append,Nat.succ_mul]
  omega
theorem qJ7:OpR X (binaryOp .Mult) (λx y H Q=>∃ z n,x=.str z/\y=.int n/\0<=n/\n<=1000/\z.length<=1000/\Q (.str (qy0 z n)) H):=by
 intro pins s σ H x y v u Q I rx ry h
 obtain ⟨z,n,rfl,rfl,h1,h2,h3,q⟩:=h
 obtain ⟨t,rfl⟩:=rx
 obtain ⟨t',rfl⟩:=ry
 have hm:z.length * n.toNat<=1000000:=by
  have:z.length * n.toNat<=1000 * 1000:=Nat.mul_le_mul h3 (by omega)
  omega
 refine PySem.P.mul_str ?_ (λhn _=>?_) (λhn _=>?_) ?_
 ·have e1:¬ n < -(2 ^ 63:Int):=by omega
  have e2:¬ n ≥ 2 ^ 63:=by omega
  rw [decide_eq_false e1,decide_eq_false e2]; rfl
 ·have e:(z.length:Int) * n<=2 ^ 63 - 1:=by
   have e1:(z.length:Int) * n=((z.length * n.toNat:Nat):Int):=by
    rw [Int.natCast_mul]
    congr 1
    omega
   omega
  have:=Int.le_ediv_of_mul_le (show 0 < n by omega) e
  omega
 ·have e:¬ z.length * n.toNat > sizeLine:=by rw [sizeLine_eq]; omega
  exact decide_eq_false e
 ·unfold qy0 at q
  split
  ·rename_i c
   rw [if_pos c] at q
   exact ⟨by decide,⟨.str _,H,I.tok _,⟨_,rfl⟩,q⟩⟩
  ·rename_i c
   rw [if_neg c] at q
   split
   ·rename_i c2
    rw [if_pos c2] at q
    exact ⟨.str _,H,I,⟨_,rfl⟩,q⟩
   ·rename_i c2
    rw [if_neg c2] at q
    refine ⟨?_,⟨.str _,H,I.tok _,⟨_,rfl⟩,q⟩⟩
    show ((List.replicate n.toNat z.cps).foldl (· ++ ·) #[]).size<=sizeLine
    rw [qs8,sizeLine_eq]
    have e:n.toNat * z.cps.size=z.length * n.toNat:=Nat.mul_comm _ _
    have e0:(#[]:Array Nat).size=0:=rfl
    omega
end
structure Df (K:PySem.W.Frag) (mg:Str->Option Value) (x:Str) (st:Stmt) (ps:List Str) (f:Addr) (fd:FuncData):Prop where
 F:Fun K x x st f fd
 mg:mg x=some (.ref f)
 b:Binds K fd ps []
theorem q19 {P:Program}{w:World}{X:Cx}:q73 (CXE P w) X E0:=λ_ _ _ _ _ _ _ h=>by
 obtain ⟨_,_,_,_,_,_,_,_,_,_,_,_,_,_,_,q⟩:=h
 exact q.elim
section
variable {P:Program}{w:World}{K:PySem.W.Frag}{mg:Str->Option Value}{base:Heap}
theorem Fun.okN {x qual:Str}{st:Stmt}{f:Addr}{fd:FuncData}{N ps:List Str}{k:Nat}{sp:Sp}(F:Fun K x qual st f fd)(S:FnScope N ps (q02 st))(len:∀ vs H Q E,sp vs H Q E->vs.length=ps.length)
  (hbody:∀(cdv:Value) (A:Around) (outer:List Env) (s:Shared) (H:Hp) (vs:List V) (Q:VK) (E:XK),Room k (A.deeper (envOfC qual (q02 st) s.heap.objs.size f cdv))->sp vs H Q E ->
   ∃ t,PSs (qD2 (CXE P w) P w K mg base N qual (q02 st) f cdv A outer s H E).nox (q08 st) t/\t { nx:=λ_ H'=>Q .non H',rt:=Q } (start N vs) H):FnOk P w K mg base (CXE P w) (k + 1) f fd ps sp:=by
 obtain ⟨oc,od,kV,doc,pm,an,cdv,ct,osl,rfl,lk,hcd⟩:=F.ex
 refine fn_of lk hcd S len λA outer s H vs Q E hr hsp=>?_
 obtain ⟨t,h,q⟩:=hbody cdv A outer s H vs Q E hr hsp
 exact ⟨t,h.nox,q⟩
theorem Fun.okE {x qual:Str}{st:Stmt}{f:Addr}{fd:FuncData}{N ps:List Str}{k:Nat}{sp:Sp}(F:Fun K x qual st f fd)(S:FnScope N ps (q02 st))(len:∀ vs H Q E,sp vs H Q E->vs.length=ps.length)
  (hbody:∀(cdv:Value) (A:Around) (outer:List Env) (s:Shared) (H:Hp) (vs:List V) (Q:VK) (E:XK),Room k (A.deeper (envOfC qual (q02 st) s.heap.objs.size f cdv))->sp vs H Q E ->
   ∃ t,PSs (qD2 (CXE P w) P w K mg base N qual (q02 st) f cdv A outer s H E) (q08 st) t/\t { nx:=λ_ H'=>Q .non H',rt:=Q } (start N vs) H):FnOk P w K mg base (CXE P w) (k + 1) f fd ps sp:=by
 obtain ⟨oc,od,kV,doc,pm,an,cdv,ct,osl,rfl,lk,hcd⟩:=F.ex
 exact fn_of lk hcd S len λA outer s H vs Q E hr hsp=>hbody cdv A outer s H vs Q E hr hsp
theorem q28 {h:Heap}(X:K.In h)(G:h.Ns mainGlobals mg){x:Str}{st:Stmt}{ps:List Str}{f:Addr}{oc:Value}{od an:Option Addr}{osl:Array (Option Value)}{kV doc pm cdv ct:Value}(a:PySem.W.nsIn K mainGlobals x=some (some (.ref f)))
  (l:K.lookup f=some ⟨oc,od,.func (PySem.W.fnOf x x (q10 st) (q08 st) (q02 st) .none kV doc pm an cdv ct),osl⟩) (c:PySem.W.codeIn K cdv x=true) (k:PySem.W.keepIn K (.ref f)=true)
  (hb:∀(kV doc pm:Value) (an:Option Addr) (cdv ct:Value) (us:List Value),us.length=ps.length->bindArgs (PySem.W.fnOf x x (q10 st) (q08 st) (q02 st) .none kV doc pm an cdv ct) ⟨us,[]⟩=pure (ps.zip us)) :
  Df K mg x st ps f (PySem.W.fnOf x x (q10 st) (q08 st) (q02 st) .none kV doc pm an cdv ct) :=
 have F:=qe0 (st:=st) l c k
 ⟨F,PySem.W.mg_of X G a,F.binds hb⟩
end
section
variable {X:Cx}{k:Nat}{f:Addr}{fd:FuncData}{ps:List Str}{sp:Sp}{x:Str}{st:Stmt}{p pos:Pos}{e:Expr}{es:List Expr}{t:TA}{E:XK}
theorem q23 (D:Df X.K X.mg x st ps f fd)(G:FnOk X.prog X.w X.K X.mg X.base (CXE X.prog X.w) k f fd ps sp)(hr:Room k X.A)(hx:q73 (CXE X.prog X.w) X E)(ha:PA X (e :: es) t)(hg:Gl X x:=by rfl)
  (hdb:(x == ("__debug__" : Str))=false:=by decide) (he:starEach (e :: es) X.env=(false,eval e X.env) :: starEach es X.env:=by rfl) (hpl:(backTo pos (starEach es X.env)).any (·.1)=false:=by rfl) :
  PE X (.Call (.Name x p) (e :: es) [] pos) (qJ3 sp [] E t):=pe_call G hr hg D.mg D.F.kp D.b .nil hx ha hdb he hpl
end
def cd (b:Bool):Nat:=if b then 121 else 110
def sn (b:Bool):V:=.str ⟨#[cd b]⟩
inductive Dt where
 | non | bl (b:Bool) | int (i:Int) | str (x:Str) | lst (ds:List Dt) | tup (ds:List Dt)
inductive Den (K:PySem.W.Frag) (H:Hp):V->Dt->Prop
 | non:Den K H .non .non
 | bl (b:Bool):Den K H (.bl b) (.bl b)
 | int (i:Int):Den K H (.int i) (.int i)
 | str (x:Str):Den K H (.str x) (.str x)
 | lst {a:Addr} {xs:List V} {ds:List Dt}:SqL K H a xs->xs.length=ds.length->ds.length<=5000->(∀(i:Nat) x d,xs[i]? = some x->ds[i]? = some d->Den K H x d)->Den K H (.ref a) (.lst ds)
 | tup {a:Addr} {xs:List V} {ds:List Dt}:SqT K H a xs->xs.length=ds.length->ds.length<=5000->(∀(i:Nat) x d,xs[i]? = some x->ds[i]? = some d->Den K H x d)->Den K H (.ref a) (.tup ds)
theorem Same.seqT {K:PySem.W.Frag}{H H':Hp}{a:Addr}{xs:List V}(e:Same H H')(h:SqT K H a xs):SqT K H' a xs:=by
 rcases h with (h | ⟨o,h⟩) | h
 ·exact .inl (.inl (e _ _ h))
 ·exact .inl (.inr ⟨o,e _ _ h⟩)
 ·exact .inr h
theorem Den.mono {K:PySem.W.Frag}{H H':Hp}(e:Same H H'):∀{v:V}{d:Dt},Den K H v d->Den K H' v d:=by
 intro v d h
 induction h with
 | non=>exact .non
 | bl b=>exact .bl b
 | int i=>exact .int i
 | str x=>exact .str x
 | lst h1 h2 h3 _ ih=>exact .lst (e.seq h1) h2 h3 ih
 | tup h1 h2 h3 _ ih=>exact .tup (e.seqT h1) h2 h3 ih
def Dt.deep:Dt->Nat
 | .lst ds=>1 + deeps ds
 | .tup ds=>1 + deeps ds
 | _=>0
where deeps:List Dt->Nat
 | []=>0
 | d :: r=>max d.deep (deeps r)
theorem qj0:∀{ds:List Dt}{i:Nat}{d:Dt},ds[i]? = some d->d.deep<=Dt.deep.deeps ds
 | _ :: _,0,_,h=>by simp at h; subst h; exact Nat.le_max_left _ _
 | _ :: r,i + 1,d,h=>Nat.le_trans (qj0 (ds:=r) (i:=i) (by simpa using h)) (Nat.le_max_right _ _)
def Dt.eqb:Dt->Dt->Bool
 | .non,.non=>true
 | .bl a,.bl b=>a == b
 | .int a,.int b=>a == b
 | .str a,.str b=>decide (a=b)
 | .lst a,.lst b=>eqbs a b
 | .tup a,.tup b=>eqbs a b
 | _,_=>false
where eqbs:List Dt->List Dt->Bool
 | [],[]=>true
 | a :: r,b :: s=>a.eqb b && eqbs r s
 | _,_=>false
theorem Same.new {H:Hp}{p:Addr}{o:HO}(h:H p=none):Same H (upd H p o):=λb u e=>by rw [q07 (q16 e h)]; exact e
section
variable {X:Cx}{st:Stmt}{t:TS}
def tCut (M:St->Hp->Prop)(t:TS):TS:=λD σ H=>t { D with nx:=M } σ H/\∀ σ' H',M σ' H'->D.nx σ' H'
theorem qr9 (M:St->Hp->Prop)(h:PS X st t):PS X st (tCut M t):=by
 intro pins s σ H D I q
 obtain ⟨q1,q2⟩:=q
 refine thn (h pins s σ H _ I q1) λf s1 r=>?_
 cases f with
 | next=>obtain ⟨σ',H',J,m⟩:=r; exact ⟨σ',H',J,q2 σ' H' m⟩
 | ret v=>exact r
 | brk=>exact r
 | cont=>exact r
end
section
variable {p:Addr}{g:TG}{tt:TT}{te:TE}{σ0:St}{H0:Hp}{Q:Hp->Prop}{x y z:Str}
theorem ql1 (Pv:Nat->St->Hp->Prop)(h0:Pv 0 σ0 H0)(hs:∀ i σ H,i < x.length->Pv i σ H->ql3 p g tt te (Pv (i + 1)) (sg x i) σ H)(hd:∀ σ H,Pv x.length σ H->Q H):qX7 (Its x) p g tt te σ0 H0 Q:=by
 refine ⟨λi m σ H=>m=x.length - i/\i<=x.length/\Pv i σ H,⟨x.length,by simp,Nat.zero_le _,h0⟩,?_⟩
 rintro i m σ H ⟨rfl,hi,q⟩
 by_cases hlt:i < x.length
 ·refine .inr ⟨hlt,Pv (i + 1),λσ' H' r=>⟨x.length - (i + 1),by omega,rfl,hlt,r⟩,λv H' r=>?_⟩
  obtain ⟨e,r⟩:=r
  subst e r
  exact hs i σ _ hlt q
 ·have e:i=x.length:=by omega
  subst e
  exact .inl ⟨Nat.le_refl _,hd σ H q⟩
end
theorem q34 {p:Addr}{i:Nat}{te:TE}{N:St->Hp->Prop}{x:V}{σ:St}{H:Hp}(h:te (σ.set i (some x)) H λv H4=>∃ ys,H4 p=some (.lst ys)/\ys.length < sizeLine/\N (σ.set i (some x)) (upd H4 p (.lst (ys ++ [v])))) :
  ql3 p (q81 i) tAll te N x σ H:=by
 exact q48 (B:=N (σ.set i (some x)) H) h
theorem FnOk.no {P:Program}{w:World}{K:PySem.W.Frag}{mg:Str->Option Value}{base:Heap}{CX:CXT}{k:Nat}{f:Addr}{fd:FuncData}{ps:List Str}:FnOk P w K mg base CX k f fd ps (λ_ _ _ _=>False) :=
 ⟨λ_ _ _ _ h=>h.elim,λ_ _ _ _ _ _ _ _ _ _ _ _ _ h=>h.elim⟩
theorem Den.kd {K:PySem.W.Frag}{H:Hp}{v:V}{d:Dt}(h:Den K H v d):kdIs K H v (match d with | .non=>.non | .bl _=>.bl | .int _=>.int | .str _=>.str | .lst _=>.lst | .tup _=>.tup):=by
 cases h with
 | non=>trivial
 | bl=>trivial
 | int=>trivial
 | str=>trivial
 | lst h1 _ _ _=>exact ⟨_,h1⟩
 | tup h1 _ _ _=>exact ⟨_,h1⟩
theorem qw5:∀(a b:List Dt),a.length=b.length->Dt.eqb.eqbs a b=((a.zip b).map λq=>q.1.eqb q.2).all id
 | [],[],_=>rfl
 | x :: r,y :: s,h=>by
  show (x.eqb y && Dt.eqb.eqbs r s)=_
  rw [qw5 r s (by simpa using h)]
  rfl
theorem qw4:∀(a b:List Dt),a.length≠b.length->Dt.eqb.eqbs a b=false
 | [],[],h=>absurd rfl h
 | [],_ :: _,_=>rfl
 | _ :: _,[],_=>rfl
 | x :: r,y :: s,h=>by
  show (x.eqb y && Dt.eqb.eqbs r s)=false
  rw [qw4 r s (by simpa using h),Bool.and_false]
theorem Den.isN {K:PySem.W.Frag}{H:Hp}{v:V}{d:Dt}(h:Den K H v d):decide (v=V.non)=d.eqb .non:=by cases h <;> rfl
def Dt.kd:Dt->Kd
 | .non=>.non | .bl _=>.bl | .int _=>.int | .str _=>.str | .lst _=>.lst | .tup _=>.tup
theorem Den.kdIs {K:PySem.W.Frag}{H:Hp}{v:V}{d:Dt}(h:Den K H v d):L2.kdIs K H v d.kd:=by cases d <;> exact h.kd
end L2
namespace K19
open PySem L2
def top (i:Nat):Stmt:=PySem.Challenge.pw_wapentake_k19_whole_bundles_all_turned_a.main.body.getD i (.Pass ⟨0,0,0,0⟩)
abbrev qm0:Stmt:=top 52
abbrev q95:Stmt:=top 53
structure Bt (mg:Str->Option Value):Prop where
 len:mg "len" = none
 range:mg "range" = none
 all:mg "all" = none
 zip:mg "zip" = none
 abs:mg "abs" = none
 int:mg "int" = none
 str:mg "str" = none
 bool:mg "bool" = none
 list:mg "list" = none
 tuple:mg "tuple" = none
 isi:mg "isinstance" = none
section
variable {P:Program}{w:World}{K:PySem.W.Frag}{mg:Str->Option Value}{base:Heap}
def qL7 (ns:List Int)(k:Nat):Int:=ns.getD k 0
def spCell (K:PySem.W.Frag):Sp:=λvs H Q _=>∃(a:Addr) (ns:List Int) (k:Nat),vs=[.ref a,.int k]/\SqL K H a (ns.map V.int)/\Q (.int (qL7 ns k)) H
theorem sc_cell:FnScope ["_law_script", "_law_k"] ["_law_script", "_law_k"] (q02 qm0):=⟨rfl,rfl,rfl,by decide +kernel,rfl,by decide +kernel,by decide +kernel⟩
theorem qv7 {f:Addr}{fd:FuncData}(D:Df K mg "_law_cell" qm0 ["_law_script", "_law_k"] f fd) (B:Bt mg):FnOk P w K mg base (CXE P w) 1 f fd ["_law_script", "_law_k"] (spCell K):=by
 refine D.F.okN sc_cell (λvs H Q E h=>?_) (λcdv A outer s H vs Q E hr h=>?_)
 ·obtain ⟨a,ns,k,rfl,_⟩:=h
  rfl
 ·obtain ⟨a,ns,k,rfl,hS,q⟩:=h
  refine ⟨_,q04 (q41 (q11 qk4 (pv 1) (q12 q20 (by rfl) B.len PySem.boot_len (q00 (pv 0) q03)) (q14 _))
    (q05 (q13 (q25 ix_list (pv 0) (pv 1) (λ_ _=>rfl)))) q21)
   (q05 (q13 q06)),?_⟩
  refine ⟨_,rfl,_,rfl,a,_,rfl,.inl hS,_,_,rfl,rfl,_,rfl,?_⟩
  refine qd4 (λc=>?_) (λc=>?_)
  ·have c:(k:Int) < ((ns.map V.int).length:Int):=of_decide_eq_true c
   rw [List.length_map] at c
   have e:(ns.map V.int)[k]? = some (.int (qL7 ns k)):=by
    rw [List.getElem?_map,List.getElem?_eq_getElem (by omega)]
    simp [qL7,List.getD_eq_getElem?_getD,List.getElem?_eq_getElem (show k < ns.length by omega)]
   exact ⟨_,rfl,_,rfl,a,_,_,_,rfl,rfl,hS,q43 e,q⟩
  ·have c:¬ (k:Int) < ((ns.map V.int).length:Int):=λz=>c (decide_eq_true z)
   rw [List.length_map] at c
   have e:qL7 ns k=0:=by
    simp [qL7,List.getD_eq_getElem?_getD,List.getElem?_eq_none (show ns.length<=k by omega)]
   rw [e] at q
   exact q
def qQ7 (c:Int):Int:=(c * 48271 + 11) % 2147483647
def twoM (c:Int):Int:=(qQ7 c * qQ7 c + 40692 * qQ7 c + c) % 2147483399
def sixM (c:Int):Int:=(twoM c * 16807 + qQ7 c) % 1000000007
def absM (c:Int):Int:=if c < 0 then -c else c
def qG6 (c:Int):Int:=if absM c < 10 ^ 18 then twoM c + 2147483399 * (sixM c + 1000000007 * qQ7 c) else absM c - 10 ^ 18
def qd5:Int->List Int->List Int
 | _,[]=>[]
 | c,p :: r=>c % p :: qd5 (c / p) r
def qu4 (c:Int):List Int->Int
 | []=>c
 | p :: r=>qu4 (c / p) r
def qq5 (c:Int)(ps:List Int):List Int:=qd5 (qG6 c) ps
theorem z91:∀(ps:List Int) (c:Int),(qd5 c ps).length=ps.length
 | [],_=>rfl
 | p :: r,c=>by show (qd5 (c / p) r).length + 1=r.length + 1; rw [z91 r]
theorem qz3:∀(ps:List Int) (c:Int) (i:Nat) (p:Int),ps[i]? = some p->qu4 c (ps.take (i + 1))=qu4 c (ps.take i) / p
 | q :: r,c,0,p,h=>by simp at h; subst h; rfl
 | q :: r,c,i + 1,p,h=>by
  show qu4 (c / q) (r.take (i + 1))=qu4 (c / q) (r.take i) / p
  exact qz3 r (c / q) i p (by simpa using h)
theorem qU1:∀(ps:List Int) (c:Int) (i:Nat) (p:Int),ps[i]? = some p->(qd5 c ps).take (i + 1)=(qd5 c ps).take i ++ [qu4 c (ps.take i) % p]
 | q :: r,c,0,p,h=>by simp at h; subst h; simp [qd5,qu4]
 | q :: r,c,i + 1,p,h=>by
  show (c % q) :: (qd5 (c / q) r).take (i + 1)=(c % q) :: ((qd5 (c / q) r).take i ++ [qu4 (c / q) (r.take i) % p])
  rw [qU1 r (c / q) i p (by simpa using h)]
theorem one_b (c:Int):0<=qQ7 c/\qQ7 c < 2147483647:=⟨Int.emod_nonneg _ (by decide),Int.emod_lt_of_pos _ (by decide)⟩
theorem two_b (c:Int):0<=twoM c/\twoM c < 2147483399:=⟨Int.emod_nonneg _ (by decide),Int.emod_lt_of_pos _ (by decide)⟩
theorem six_b (c:Int):0<=sixM c/\sixM c < 1000000007:=⟨Int.emod_nonneg _ (by decide),Int.emod_lt_of_pos _ (by decide)⟩
def qB8 (K:PySem.W.Frag):Sp:=λvs H Q _=>∃(c:Int) (p:Addr) (ps:List Int),vs=[.int c,.ref p]/\SqL K H p (ps.map V.int)/\(∀ x∈ps,0 < x/\x < 1073741824)/\ps.length<=100 /\
 ∀ q H',Same H H'->H q=none->H' q=some (.lst ((qq5 c ps).map V.int))->Q (.ref q) H'
theorem sc_draws:FnScope ["_law_cell_here", "_law_parts", "_law_one", "_law_two", "_law_six", "_law_found", "_law_part"] ["_law_cell_here", "_law_parts"] (q02 q95):=⟨rfl,rfl,rfl,by decide +kernel,rfl,by decide +kernel,by decide +kernel⟩
theorem qi2 {f:Addr}{fd:FuncData}(D:Df K mg "_law_draws" q95 ["_law_cell_here", "_law_parts"] f fd) (B:Bt mg):FnOk P w K mg base (CXE P w) 1 f fd ["_law_cell_here", "_law_parts"] (qB8 K):=by
 refine D.F.okN sc_draws (λvs H Q E h=>?_) (λcdv A outer s H vs Q E hr h=>?_)
 ·obtain ⟨c,p,ps,rfl,_⟩:=h
  rfl
 ·obtain ⟨c,p,ps,rfl,hS,hps,hl,k⟩:=h
  refine ⟨_,q04 (qr9 (λσ' H'=>H'=H/\∃ x2 x3 x4,σ'=[some (.int (qG6 c)),some (.ref p),x2,x3,x4,none,none])
    (q41 (q11 qk4 (q12 qI1 (by rfl) B.abs PyProof.Rows.boot_abs (q00 (pv 0) q03)) (q24 z81 q06 q06) (q14 _))
     (q04 (q18 (i:=2) sc_draws.nd rfl (Or.inl rfl) (q24 q65 (q24 q46 (q24 qi1 (pv 0) q06) q06) q06))
     (q04 (q18 (i:=3) sc_draws.nd rfl (Or.inl rfl) (q24 q65 (q24 q46 (q24 q46 (q24 qi1 (pv 2) (pv 2)) (q24 qi1 q06 (pv 2))) (pv 0)) q06))
     (q04 (q18 (i:=4) sc_draws.nd rfl (Or.inl rfl) (q24 q65 (q24 q46 (q24 qi1 (pv 3) q06) (pv 2)) q06))
     (q05 (q18 (i:=0) sc_draws.nd rfl (Or.inl rfl) (q24 q46 (pv 3) (q24 qi1 q06 (q24 q46 (pv 4) (q24 qi1 q06 (pv 2))))))))))
     (q05 (q18 (i:=0) sc_draws.nd rfl (Or.inl rfl) (q24 z80 (q12 qI1 (by rfl) B.abs PyProof.Rows.boot_abs (q00 (pv 0) q03)) (q24 z81 q06 q06))))))
   (q04 (q18 (i:=5) sc_draws.nd rfl (Or.inl rfl) (q42 q03))
   (q04 (q36 PassesOwn.never rfl (q27 (pv 1)) (q09 (i:=6) sc_draws.nd rfl (Or.inl rfl))
    (q04 (q26 (qk1 PySem.F.plainAttrs_list PySem.F.slot_list_append PySem.F.type_list_append q45 (pv 5) (q00 (q24 q65 (pv 0) (pv 6)) q03)))
    (q05 (q18 (i:=0) sc_draws.nd rfl (Or.inl rfl) (q24 qe7 (pv 0) (pv 6))))))
   (q05 (q13 (pv 5))))),?_⟩
  have b1:=one_b c
  have b2:=two_b c
  have b3:=six_b c
  refine ⟨?_,?_⟩
  ·refine ⟨_,rfl,_,rfl,_,_,rfl,rfl,⟨by decide,by decide,by decide⟩,_,_,rfl,rfl,_,rfl,?_⟩
   refine qd4 (λz=>?_) (λz=>?_)
   ·have z:absM c < 10 ^ 18:=of_decide_eq_true z
    refine ⟨_,rfl,_,_,rfl,rfl,.inr ⟨by decide,by decide⟩,_,_,rfl,rfl,_,_,rfl,rfl,(by show (0:Int) < 2147483647; decide),?_⟩
    refine ⟨_,rfl,_,rfl,_,_,rfl,rfl,.inl ⟨?_,?_⟩,_,rfl,_,_,rfl,rfl,.inl ⟨by decide,by decide⟩,_,_,rfl,rfl,_,rfl,_,_,rfl,rfl,_,_,rfl,rfl,(by show (0:Int) < 2147483399; decide),?_⟩
    ·show -(2 ^ 64) < qQ7 c; omega
    ·show qQ7 c < 2 ^ 64; omega
    refine ⟨_,rfl,_,_,rfl,rfl,.inr ⟨by decide,by decide⟩,_,rfl,_,_,rfl,rfl,_,_,rfl,rfl,(by show (0:Int) < 1000000007; decide),?_⟩
    refine ⟨_,rfl,_,rfl,_,rfl,_,_,rfl,rfl,.inl ⟨by decide,by decide⟩,_,_,rfl,rfl,_,_,rfl,rfl,.inl ⟨by decide,by decide⟩,_,_,rfl,rfl,?_⟩
    refine ⟨rfl,some (.int (qQ7 c)),some (.int (twoM c)),some (.int (sixM c)),?_⟩
    have e:qG6 c=twoM c + 2147483399 * (sixM c + 1000000007 * qQ7 c):=if_pos z
    rw [e]
    rfl
   ·have z:¬ absM c < 10 ^ 18:=λq=>z (decide_eq_true q)
    refine ⟨_,rfl,_,rfl,_,_,rfl,rfl,⟨by decide,by decide,by decide⟩,_,_,rfl,rfl,?_⟩
    refine ⟨rfl,none,none,none,?_⟩
    have e:qG6 c=absM c - 10 ^ 18:=if_neg z
    rw [e]
    rfl
  ·rintro σ' H' ⟨rfl,x2,x3,x4,rfl⟩
   refine ⟨Nat.zero_le _,λq hq=>?_⟩
   have S0:Same H' (upd H' q (.lst [])):=Same.new hq
   refine ⟨_,rfl,p,rfl,⟨_,S0.seq hS⟩,q62 (K:=K) (a:=p) (xs:=ps.map V.int) (λi σ H2=>∃ v,σ=[some (.int (qu4 (qG6 c) (ps.take i))),some (.ref p),x2,x3,x4,some (.ref q),v]/\Same H' H2/\H2 q=some (.lst (((qq5 c ps).take i).map V.int)))
    ⟨none,rfl,S0,q01⟩ (λi σ H2 _ ⟨_,_,s2,_⟩=>s2.seq hS) ?_ ?_⟩
   ·rintro i y σ H2 hi ⟨v,rfl,s2,e2⟩
    rw [List.getElem?_map] at hi
    cases z:ps[i]? with
    | none=>rw [z] at hi; cases hi
    | some d =>
     rw [z] at hi
     cases hi
     obtain ⟨d1,d2⟩:=hps d (List.mem_of_getElem? z)
     have il:i < ps.length:=(List.getElem?_eq_some_iff.mp z).1
     refine ⟨_,rfl,.inl ⟨rfl,_,SqL.of e2⟩,_,rfl,_,rfl,_,_,rfl,rfl,d1,q,_,_,rfl,rfl,e2,?_,?_⟩
     ·rw [List.length_map,List.length_take]
      exact qO6 (by omega)
     refine ⟨_,rfl,_,rfl,_,_,rfl,rfl,⟨d1,d2⟩,?_⟩
     refine ⟨some (.int d),?_,λb o hb=>?_,?_⟩
     ·rw [qz3 ps (qG6 c) i d z]; rfl
     ·rw [q07 (q16 hb hq)]
      exact s2 b o hb
     ·rw [q01]
      show some (HO.lst _)=_
      unfold qq5
      rw [qU1 ps (qG6 c) i d z,List.map_append]
      rfl
   ·rintro σ H2 ⟨v,rfl,s2,e2⟩
    refine ⟨_,rfl,k q H2 s2 hq ?_⟩
    rw [e2]
    have:(qq5 c ps).take (ps.map V.int).length=qq5 c ps:=List.take_of_length_le (by unfold qq5; rw [z91,List.length_map]; exact Nat.le_refl _)
    rw [this]
abbrev ql6:Stmt:=top 54
def spSame (K:PySem.W.Frag):Nat->Sp
 | 0=>λ_ _ _ _=>False
 | m + 1=>λvs H Q _=>∃(v1 v2:V) (d1 d2:Dt),vs=[v1,v2]/\Den K H v1 d1/\Den K H v2 d2/\d2.deep<=m/\∀ H',Same H H'->Q (.bl (d1.eqb d2)) H'
theorem sc_same:FnScope ["_law_found", "_law_due"] ["_law_found", "_law_due"] (q02 ql6):=⟨rfl,rfl,rfl,by decide +kernel,rfl,by decide +kernel,by decide +kernel⟩
theorem qr5 {n:Nat}(h:n<=5000):n < sizeLine:=Nat.lt_of_le_of_lt h (by decide)
theorem nd3:(["_law_k", "_law_found", "_law_due"]:List Str).Nodup:=by decide +kernel
abbrev Ps:List Str:=["_law_found", "_law_due"]
theorem qv6 {f:Addr}{fd:FuncData}(D:Df K mg "_law_same" ql6 Ps f fd) (B:Bt mg) (m:Nat):FnOk P w K mg base (CXE P w) m f fd Ps (spSame K m):=by
 induction m with
 | zero=>exact FnOk.no
 | succ m G =>
  refine D.F.okN sc_same (λvs H Q E h=>?_) (λcdv A outer s H vs Q E hr h=>?_)
  ·obtain ⟨v1,v2,d1,d2,rfl,_⟩:=h
   rfl
  ·obtain ⟨v1,v2,d1,d2,rfl,h1,h2,hd,k⟩:=h
   refine ⟨_,q04 (q41 (q11 z82 (pv 1) qQ1 (q14 _)) (q05 (q13 (q50 z82 (pv 0) qQ1 (q14 _)))) q21)
    (q04 (q41 (q52 (q12 q63 (by rfl) B.isi (by rfl) (q00 (pv 1) (q00 (q88 (by rfl) B.str (v:=.ty "str") (u:=.type "str") (by rfl) rfl) q03))))
      (q05 (q13 (qp3 (q12 q63 (by rfl) B.isi (by rfl) (q00 (pv 0) (q00 (q88 (by rfl) B.str (v:=.ty "str") (u:=.type "str") (by rfl) rfl) q03)))
       (qs1 (q50 q58 (pv 0) (pv 1) (q14 _)))))) q21)
    (q04 (q41 (q52 (q12 q63 (by rfl) B.isi (by rfl) (q00 (pv 1) (q00 (q88 (by rfl) B.int (v:=.ty "int") (u:=.type "int") (by rfl) rfl) q03))))
      (q05 (q13 (qp3 (q12 q63 (by rfl) B.isi (by rfl) (q00 (pv 0) (q00 (q88 (by rfl) B.int (v:=.ty "int") (u:=.type "int") (by rfl) rfl) q03)))
       (qp3 (q50 q58 (q12 q63 (by rfl) B.isi (by rfl) (q00 (pv 0) (q00 (q88 (by rfl) B.bool (v:=.ty "bool") (u:=.type "bool") (by rfl) rfl) q03)))
         (q12 q63 (by rfl) B.isi (by rfl) (q00 (pv 1) (q00 (q88 (by rfl) B.bool (v:=.ty "bool") (u:=.type "bool") (by rfl) rfl) q03))) (q14 _))
        (qs1 (q50 q58 (pv 0) (pv 1) (q14 _))))))) q21)
    (q04 (q41 (PW.pt (qh7 (q11 qv5 (q12 q63 (by rfl) B.isi (by rfl) (q00 (pv 1) (q00 (q88 (by rfl) B.list (v:=.ty "list") (u:=.type "list") (by rfl) rfl) q03)))
         (q12 q63 (by rfl) B.isi (by rfl) (q00 (pv 0) (q00 (q88 (by rfl) B.list (v:=.ty "list") (u:=.type "list") (by rfl) rfl) q03))) (q14 _))
        (qb2 (q11 qv5 (q12 q63 (by rfl) B.isi (by rfl) (q00 (pv 1) (q00 (q88 (by rfl) B.tuple (v:=.ty "tuple") (u:=.type "tuple") (by rfl) rfl) q03)))
         (q12 q63 (by rfl) B.isi (by rfl) (q00 (pv 0) (q00 (q88 (by rfl) B.tuple (v:=.ty "tuple") (u:=.type "tuple") (by rfl) rfl) q03))) (q14 _)))))
      (q05 (q13 qk2)) q21)
    (q05 (q13 (qp3 (q50 q58 (q12 q20 (by rfl) B.len PySem.boot_len (q00 (pv 0) q03)) (q12 q20 (by rfl) B.len PySem.boot_len (q00 (pv 1) q03)) (q14 _))
     (qs1 (q12 (q90 rfl) (by rfl) B.all (by rfl) (q00
      (q38 (N':=["_law_k", "_law_found", "_law_due"]) (fm:=[none,some 0,some 1]) rfl ⟨rfl,by decide +kernel,by decide +kernel,rfl,rfl,rfl⟩
       (q31 (by rfl) B.range (q00 (q12 q20 (by rfl) B.len PySem.boot_len (q00 (pv 1) q03)) q03))
       (λ_ _ _ _=>q09 (i:=0) nd3 rfl (Or.inl rfl)) (λ_ _ _ _=>q35)
       (λ_ _ _ _=>q23 D G hr q19 (q00 (q25 (r:=rIx K) z87 (pv 1) (pv 0) (λ_ _=>rfl)) (q00 (q25 (r:=rIx K) z87 (pv 2) (pv 0) (λ_ _=>rfl)) q03)))) q03))))))))),?_⟩
   have kk:=h1.kdIs
   have fin:=k H (Same.refl H)
   cases h2 with
   | non =>
    refine ⟨_,rfl,rfl,_,rfl,q48 ⟨_,rfl,rfl,?_⟩⟩
    have e:=h1.isN
    rw [e]
    exact fin
   | str y =>
    refine ⟨_,rfl,rfl,_,rfl,q30 ⟨_,rfl,_,.str, "str",true,rfl,trivial,rfl,_,rfl,q48 ?_⟩⟩
    cases h1 with
    | str x =>
     refine ⟨_,rfl,_,.str, "str",true,rfl,trivial,rfl,_,rfl,q48 ⟨_,rfl,_,rfl,rfl,?_⟩⟩
     have e:decide (V.str x=V.str y)=(Dt.str x).eqb (.str y):=by simp [Dt.eqb]
     rw [e]
     exact fin
    | non=>exact ⟨_,rfl,_,.non, "str",false,rfl,kk,rfl,_,rfl,q30 fin⟩
    | bl _=>exact ⟨_,rfl,_,.bl, "str",false,rfl,kk,rfl,_,rfl,q30 fin⟩
    | int _=>exact ⟨_,rfl,_,.int, "str",false,rfl,kk,rfl,_,rfl,q30 fin⟩
    | lst _ _ _ _=>exact ⟨_,rfl,_,.lst, "str",false,rfl,kk,rfl,_,rfl,q30 fin⟩
    | tup _ _ _ _=>exact ⟨_,rfl,_,.tup, "str",false,rfl,kk,rfl,_,rfl,q30 fin⟩
   | int y =>
    refine ⟨_,rfl,rfl,_,rfl,q30 ⟨_,rfl,_,.int, "str",false,rfl,trivial,rfl,_,rfl,q30 ⟨_,rfl,_,.int, "int",true,rfl,trivial,rfl,_,rfl,q48 ?_⟩⟩⟩
    cases h1 with
    | int x =>
     refine ⟨_,rfl,_,.int, "int",true,rfl,trivial,rfl,_,rfl,q48 ⟨_,rfl,_,.int, "bool",false,rfl,trivial,rfl,_,rfl,_,.int, "bool",false,rfl,trivial,rfl,rfl,_,rfl,q48 ⟨_,rfl,_,rfl,rfl,?_⟩⟩⟩
     have e:decide (V.int x=V.int y)=(Dt.int x).eqb (.int y):=qb0
     rw [e]
     exact fin
    | bl x=>exact ⟨_,rfl,_,.bl, "int",true,rfl,trivial,rfl,_,rfl,q48 ⟨_,rfl,_,.bl, "bool",true,rfl,trivial,rfl,_,rfl,_,.int, "bool",false,rfl,trivial,rfl,rfl,_,rfl,q30 fin⟩⟩
    | non=>exact ⟨_,rfl,_,.non, "int",false,rfl,kk,rfl,_,rfl,q30 fin⟩
    | str _=>exact ⟨_,rfl,_,.str, "int",false,rfl,kk,rfl,_,rfl,q30 fin⟩
    | lst _ _ _ _=>exact ⟨_,rfl,_,.lst, "int",false,rfl,kk,rfl,_,rfl,q30 fin⟩
    | tup _ _ _ _=>exact ⟨_,rfl,_,.tup, "int",false,rfl,kk,rfl,_,rfl,q30 fin⟩
   | bl y =>
    refine ⟨_,rfl,rfl,_,rfl,q30 ⟨_,rfl,_,.bl, "str",false,rfl,trivial,rfl,_,rfl,q30 ⟨_,rfl,_,.bl, "int",true,rfl,trivial,rfl,_,rfl,q48 ?_⟩⟩⟩
    cases h1 with
    | bl x =>
     refine ⟨_,rfl,_,.bl, "int",true,rfl,trivial,rfl,_,rfl,q48 ⟨_,rfl,_,.bl, "bool",true,rfl,trivial,rfl,_,rfl,_,.bl, "bool",true,rfl,trivial,rfl,rfl,_,rfl,q48 ⟨_,rfl,_,rfl,rfl,?_⟩⟩⟩
     have e:decide (V.bl x=V.bl y)=(Dt.bl x).eqb (.bl y):=qV4
     rw [e]
     exact fin
    | int x=>exact ⟨_,rfl,_,.int, "int",true,rfl,trivial,rfl,_,rfl,q48 ⟨_,rfl,_,.int, "bool",false,rfl,trivial,rfl,_,rfl,_,.bl, "bool",true,rfl,trivial,rfl,rfl,_,rfl,q30 fin⟩⟩
    | non=>exact ⟨_,rfl,_,.non, "int",false,rfl,kk,rfl,_,rfl,q30 fin⟩
    | str _=>exact ⟨_,rfl,_,.str, "int",false,rfl,kk,rfl,_,rfl,q30 fin⟩
    | lst _ _ _ _=>exact ⟨_,rfl,_,.lst, "int",false,rfl,kk,rfl,_,rfl,q30 fin⟩
    | tup _ _ _ _=>exact ⟨_,rfl,_,.tup, "int",false,rfl,kk,rfl,_,rfl,q30 fin⟩
   | @lst a2 xs2 ds2 hq2 hl2 hz2 hx2 =>
    have k2:kdIs K H (.ref a2) .lst:=⟨_,hq2⟩
    refine ⟨_,rfl,rfl,_,rfl,q30 ⟨_,rfl,_,.lst, "str",false,rfl,k2,rfl,_,rfl,q30 ⟨_,rfl,_,.lst, "int",false,rfl,k2,rfl,_,rfl,q30 ⟨_,rfl,_,.lst, "list",true,rfl,k2,rfl,?_⟩⟩⟩⟩
    cases h1 with
    | non=>exact ⟨_,rfl,_,.non, "list",false,rfl,kk,rfl,rfl,_,rfl,q48 (q48 fin)⟩
    | bl _=>exact ⟨_,rfl,_,.bl, "list",false,rfl,kk,rfl,rfl,_,rfl,q48 (q48 fin)⟩
    | int _=>exact ⟨_,rfl,_,.int, "list",false,rfl,kk,rfl,rfl,_,rfl,q48 (q48 fin)⟩
    | str _=>exact ⟨_,rfl,_,.str, "list",false,rfl,kk,rfl,rfl,_,rfl,q48 (q48 fin)⟩
    | tup _ _ _ _=>exact ⟨_,rfl,_,.tup, "list",false,rfl,kk,rfl,rfl,_,rfl,q48 (q48 fin)⟩
    | @lst a1 xs1 ds1 hq1 hl1 hz1 hx1 =>
     refine ⟨_,rfl,_,.lst, "list",true,rfl,kk,rfl,rfl,_,rfl,q30 ⟨_,rfl,_,.lst, "tuple",false,rfl,k2,rfl,_,rfl,_,.lst, "tuple",false,rfl,kk,rfl,rfl,_,rfl,q30 ?_⟩⟩
     refine ⟨_,rfl,a1,_,rfl,.inl hq1,_,rfl,a2,_,rfl,.inl hq2,rfl,_,rfl,?_⟩
     refine qd4 (λc=>?_) (λc=>?_)
     ·have c:V.int ((xs1.length:Nat):Int)=V.int ((xs2.length:Nat):Int):=of_decide_eq_true c
      have el:ds1.length=ds2.length:=by injection c with c; omega
      cases m with
      | zero=>exact absurd hd (by show ¬ 1 + _<=0; omega)
      | succ m =>
       refine ⟨_,rfl,a2,_,rfl,.inl hq2,_,rfl,by omega,by rw [hl2]; omega,λp hp=>?_⟩
       have en:((xs2.length:Nat):Int).toNat=ds2.length:=by omega
       rw [en]
       refine q85 (λi σ H2=>∃ v,σ=[v,some (.ref a1),some (.ref a2)]/\Same H H2/\H2 p=some (.lst ((((ds1.zip ds2).map λq=>q.1.eqb q.2).take i).map V.bl))) ⟨none,rfl,Same.new hp,q01⟩ ?_ ?_
       ·rintro i σ H2 hi ⟨v,rfl,s2,e2⟩
        have e1:ds1[i]? = some ds1[i]:=List.getElem?_eq_getElem (by omega)
        have e2':ds2[i]? = some ds2[i]:=List.getElem?_eq_getElem hi
        have f1:xs1[i]? = some xs1[i]:=List.getElem?_eq_getElem (by omega)
        have f2:xs2[i]? = some xs2[i]:=List.getElem?_eq_getElem (by omega)
        have ei:(0:Int) + (i:Int)=(i:Int):=Int.zero_add _
        refine q34 ⟨_,rfl,_,rfl,.inl ⟨a1,_,_,_,rfl,rfl,s2.seq hq1,(by rw [ei]; exact q43 f1),_,rfl,_,rfl,.inl ⟨a2,_,_,_,rfl,rfl,s2.seq hq2,(by rw [ei]; exact q43 f2),?_⟩⟩⟩
        refine ⟨_,_,_,_,rfl,(hx1 i _ _ f1 e1).mono s2,(hx2 i _ _ f2 e2').mono s2,?_,λH3 s3=>?_⟩
        ·have h1:1 + Dt.deep.deeps ds2<=m + 1:=hd
         have:=qj0 e2'
         omega
        ·refine ⟨_,s3 p _ e2,?_,_,rfl,λb o hb=>?_,?_⟩
         ·rw [List.length_map,List.length_take]
          exact qr5 (by omega)
         ·rw [q07 (q16 hb hp)]
          exact s3 b o (s2 b o hb)
         ·rw [q01]
          have z:((ds1.zip ds2).map λq=>q.1.eqb q.2)[i]? = some (ds1[i].eqb ds2[i]):=by
           rw [List.getElem?_map,(List.getElem?_zip_eq_some (z:=(ds1[i],ds2[i]))).mpr ⟨e1,e2'⟩]
           rfl
          rw [List.take_add_one,z,List.map_append]
          rfl
       ·rintro σ H2 ⟨v,rfl,s2,e2⟩
        have ek:((ds1.zip ds2).map λq=>q.1.eqb q.2).take ds2.length=((ds1.zip ds2).map λq=>q.1.eqb q.2):=List.take_of_length_le (by rw [List.length_map,List.length_zip]; omega)
        rw [ek] at e2
        refine ⟨p,_,rfl,SqL.of e2,?_⟩
        have:=k H2 s2
        have ee:(Dt.lst ds1).eqb (Dt.lst ds2)=((ds1.zip ds2).map λq=>q.1.eqb q.2).all id:=qw5 ds1 ds2 el
        rw [ee] at this
        exact this
     ·have el:ds1.length≠ds2.length:=λz=>c (decide_eq_true (by rw [hl1,hl2,z]))
      have ee:(Dt.lst ds1).eqb (Dt.lst ds2)=false:=qw4 ds1 ds2 el
      rw [ee] at fin
      exact fin
   | @tup a2 xs2 ds2 hq2 hl2 hz2 hx2 =>
    have k2:kdIs K H (.ref a2) .tup:=⟨_,hq2⟩
    refine ⟨_,rfl,rfl,_,rfl,q30 ⟨_,rfl,_,.tup, "str",false,rfl,k2,rfl,_,rfl,q30 ⟨_,rfl,_,.tup, "int",false,rfl,k2,rfl,_,rfl,q30 ⟨_,rfl,_,.tup, "list",false,rfl,k2,rfl,?_⟩⟩⟩⟩
    cases h1 with
    | non=>exact ⟨_,rfl,_,.non, "list",false,rfl,kk,rfl,rfl,_,rfl,q30 ⟨_,rfl,_,.tup, "tuple",true,rfl,k2,rfl,_,rfl,_,.non, "tuple",false,rfl,kk,rfl,rfl,_,rfl,q48 fin⟩⟩
    | bl _=>exact ⟨_,rfl,_,.bl, "list",false,rfl,kk,rfl,rfl,_,rfl,q30 ⟨_,rfl,_,.tup, "tuple",true,rfl,k2,rfl,_,rfl,_,.bl, "tuple",false,rfl,kk,rfl,rfl,_,rfl,q48 fin⟩⟩
    | int _=>exact ⟨_,rfl,_,.int, "list",false,rfl,kk,rfl,rfl,_,rfl,q30 ⟨_,rfl,_,.tup, "tuple",true,rfl,k2,rfl,_,rfl,_,.int, "tuple",false,rfl,kk,rfl,rfl,_,rfl,q48 fin⟩⟩
    | str _=>exact ⟨_,rfl,_,.str, "list",false,rfl,kk,rfl,rfl,_,rfl,q30 ⟨_,rfl,_,.tup, "tuple",true,rfl,k2,rfl,_,rfl,_,.str, "tuple",false,rfl,kk,rfl,rfl,_,rfl,q48 fin⟩⟩
    | lst _ _ _ _=>exact ⟨_,rfl,_,.lst, "list",true,rfl,kk,rfl,rfl,_,rfl,q48 (q48 fin)⟩
    | @tup a1 xs1 ds1 hq1 hl1 hz1 hx1 =>
     refine ⟨_,rfl,_,.tup, "list",false,rfl,kk,rfl,rfl,_,rfl,q30 ⟨_,rfl,_,.tup, "tuple",true,rfl,k2,rfl,_,rfl,_,.tup, "tuple",true,rfl,kk,rfl,rfl,_,rfl,q30 ?_⟩⟩
     refine ⟨_,rfl,a1,_,rfl,.inr hq1,_,rfl,a2,_,rfl,.inr hq2,rfl,_,rfl,?_⟩
     refine qd4 (λc=>?_) (λc=>?_)
     ·have c:V.int ((xs1.length:Nat):Int)=V.int ((xs2.length:Nat):Int):=of_decide_eq_true c
      have el:ds1.length=ds2.length:=by injection c with c; omega
      cases m with
      | zero=>exact absurd hd (by show ¬ 1 + _<=0; omega)
      | succ m =>
       refine ⟨_,rfl,a2,_,rfl,.inr hq2,_,rfl,by omega,by rw [hl2]; omega,λp hp=>?_⟩
       have en:((xs2.length:Nat):Int).toNat=ds2.length:=by omega
       rw [en]
       refine q85 (λi σ H2=>∃ v,σ=[v,some (.ref a1),some (.ref a2)]/\Same H H2/\H2 p=some (.lst ((((ds1.zip ds2).map λq=>q.1.eqb q.2).take i).map V.bl))) ⟨none,rfl,Same.new hp,q01⟩ ?_ ?_
       ·rintro i σ H2 hi ⟨v,rfl,s2,e2⟩
        have e1:ds1[i]? = some ds1[i]:=List.getElem?_eq_getElem (by omega)
        have e2':ds2[i]? = some ds2[i]:=List.getElem?_eq_getElem hi
        have f1:xs1[i]? = some xs1[i]:=List.getElem?_eq_getElem (by omega)
        have f2:xs2[i]? = some xs2[i]:=List.getElem?_eq_getElem (by omega)
        have ei:(0:Int) + (i:Int)=(i:Int):=Int.zero_add _
        refine q34 ⟨_,rfl,_,rfl,.inr (.inl ⟨a1,_,_,_,rfl,rfl,s2.seqT hq1,(by rw [ei]; exact q43 f1),_,rfl,_,rfl,.inr (.inl ⟨a2,_,_,_,rfl,rfl,s2.seqT hq2,(by rw [ei]; exact q43 f2),?_⟩)⟩)⟩
        refine ⟨_,_,_,_,rfl,(hx1 i _ _ f1 e1).mono s2,(hx2 i _ _ f2 e2').mono s2,?_,λH3 s3=>?_⟩
        ·have h1:1 + Dt.deep.deeps ds2<=m + 1:=hd
         have:=qj0 e2'
         omega
        ·refine ⟨_,s3 p _ e2,?_,_,rfl,λb o hb=>?_,?_⟩
         ·rw [List.length_map,List.length_take]
          exact qr5 (by omega)
         ·rw [q07 (q16 hb hp)]
          exact s3 b o (s2 b o hb)
         ·rw [q01]
          have z:((ds1.zip ds2).map λq=>q.1.eqb q.2)[i]? = some (ds1[i].eqb ds2[i]):=by
           rw [List.getElem?_map,(List.getElem?_zip_eq_some (z:=(ds1[i],ds2[i]))).mpr ⟨e1,e2'⟩]
           rfl
          rw [List.take_add_one,z,List.map_append]
          rfl
       ·rintro σ H2 ⟨v,rfl,s2,e2⟩
        have ek:((ds1.zip ds2).map λq=>q.1.eqb q.2).take ds2.length=((ds1.zip ds2).map λq=>q.1.eqb q.2):=List.take_of_length_le (by rw [List.length_map,List.length_zip]; omega)
        rw [ek] at e2
        refine ⟨p,_,rfl,SqL.of e2,?_⟩
        have:=k H2 s2
        have ee:(Dt.tup ds1).eqb (Dt.tup ds2)=((ds1.zip ds2).map λq=>q.1.eqb q.2).all id:=qw5 ds1 ds2 el
        rw [ee] at this
        exact this
     ·have el:ds1.length≠ds2.length:=λz=>c (decide_eq_true (by rw [hl1,hl2,z]))
      have ee:(Dt.tup ds1).eqb (Dt.tup ds2)=false:=qw4 ds1 ds2 el
      rw [ee] at fin
      exact fin
end
end K19
namespace L2
open PySem PySem.Spec PyProof.Rows
def tx (n:Nat)(c:Nat->Nat):Str:=⟨((List.range n).map c).toArray⟩
def s1 (c:Nat):V:=.str ⟨#[c]⟩
theorem ql4 (n:Nat)(c:Nat->Nat):(tx n c).length=n:=by show (((List.range n).map c).toArray).size=_; simp
theorem tx_at {n i:Nat}{c:Nat->Nat}(h:i < n):atI (tx n c).cps.toList (i:Int)=some (c i):=by
 refine q43 ?_
 show (((List.range n).map c).toArray.toList)[i]? = _
 simp [h]
theorem tx_snoc (i:Nat)(c:Nat->Nat):tx i c ++ (⟨#[c i]⟩:Str)=tx (i + 1) c:=by
 show (⟨((List.range i).map c).toArray ++ #[c i]⟩:Str)=⟨((List.range (i + 1)).map c).toArray⟩
 simp [List.range_succ]
theorem qE3 {i:Nat}{c:Nat->Nat}{d:Nat}(h:d=c i):tx i c ++ (⟨#[d]⟩:Str)=tx (i + 1) c:=by rw [h]; exact tx_snoc i c
theorem qt5 {n:Nat}{c d:Nat->Nat}(h:∀ i,i < n->c i=d i):tx n c=tx n d:=by
 unfold tx
 rw [List.map_congr_left λi hi=>h i (List.mem_range.mp hi)]
theorem s1_eq (a b:Nat):(s1 a=s1 b)=(a=b):=propext ⟨λh=>by
 have h:(⟨#[a]⟩:Str)=⟨#[b]⟩:=by injection h
 have h2 : #[a] = #[b]:=by injection h
 simpa using h2,λh=>by rw [h]⟩
theorem qj1 (a b:Nat):decide (s1 a=s1 b)=decide (a=b):=decide_eq_decide.mpr (by rw [s1_eq])
theorem tx_rep (n:Nat):qy0 ("-" : Str) (n:Int)=tx n (λ_=>45):=by
 have f:∀(k:Nat) (b:Array Nat),(List.replicate k (#[45]:Array Nat)).foldl (· ++ ·) b=b ++ (List.replicate k 45).toArray:=by
  intro k
  induction k with
  | zero=>intro b; simp
  | succ k ih =>
   intro b
   rw [List.replicate_succ,List.foldl_cons,ih,List.replicate_succ]
   show b ++ #[45] ++ _=_
   rw [Array.append_assoc]
   congr 1
   show (#[45]:Array Nat) ++ _=_
   rw [show (#[45]:Array Nat)=[45].toArray from rfl,List.append_toArray]
   rfl
 unfold qy0
 by_cases h0:(n:Int) < 1
 ·rw [if_pos h0]
  have:n=0:=by omega
  subst this
  rfl
 ·rw [if_neg h0]
  by_cases h1:n=1
  ·subst h1; rfl
  ·have e:(((n:Int) == 1) || (("-" : Str).length == 0))=false:=by
    have:((n:Int) == 1)=false:=by simpa using (by omega:¬ (n:Int)=1)
    rw [this]; rfl
   rw [e]
   show (⟨_⟩:Str)=⟨_⟩
   have e2:((List.range n).map λ_=>45)=List.replicate n 45:=by
    rw [List.eq_replicate_iff]
    exact ⟨by simp,λb hb=>by obtain ⟨_,_,e⟩:=List.mem_map.mp hb; exact e.symm⟩
   rw [e2]
   congr 1
   show (List.replicate (n:Int).toNat (#[45]:Array Nat)).foldl (· ++ ·) #[]=_
   rw [f]
   show #[] ++ _=_
   rw [Array.empty_append]
   rfl
theorem qU3:∀(l:List Nat) (b:Array Nat),(l.map λd=>(⟨#[d]⟩:Str)).foldl (λacc p=>acc ++ ("" : Str).cps ++ p.cps) b=b ++ l.toArray
 | [],b=>by simp
 | d :: r,b=>by
  rw [List.map_cons,List.foldl_cons,qU3 r]
  show b ++ #[] ++ #[d] ++ r.toArray=b ++ (d :: r).toArray
  have z:(#[d]:Array Nat) ++ r.toArray=(d :: r).toArray:=by
   rw [show (#[d]:Array Nat)=[d].toArray from rfl,List.append_toArray]
   rfl
  rw [Array.append_empty,Array.append_assoc,z]
theorem tx_join (n:Nat)(c:Nat->Nat):Txt.join ("" : Str) ((List.range n).map λi=>(⟨#[c i]⟩:Str))=tx n c:=by
 have e:((List.range n).map λi=>(⟨#[c i]⟩:Str))=((List.range n).map c).map λd=>(⟨#[d]⟩:Str):=by rw [List.map_map]; rfl
 rw [e]
 unfold tx
 generalize (List.range n).map c=l
 show (⟨_⟩:Str)=_
 congr 1
 cases l with
 | nil=>rfl
 | cons d r =>
  show ((r.map λd=>(⟨#[d]⟩:Str))).foldl (λacc p=>acc ++ ("" : Str).cps ++ p.cps) #[d]=_
  rw [qU3,show (#[d]:Array Nat)=[d].toArray from rfl,List.append_toArray]
  rfl
theorem joinlen (n:Nat)(c:Nat->Nat):((((List.range n).map λi=>(⟨#[c i]⟩:Str)).map (·.length)).sum)=n:=by
 rw [List.map_map]
 have:((λx:Str=>x.length) ∘ λi=>(⟨#[c i]⟩:Str))=λ_=>1:=rfl
 rw [this,List.map_const',List.sum_replicate_nat,List.length_range,Nat.mul_one]
section
variable {p T:Addr}{K:PySem.W.Frag}{te:TE}{N:St->Hp->Prop}{x y z:V}{σ:St}{H:Hp}
theorem qe1 (hT:H T=some (.tup [x,y]))(h:te ((σ.set 0 (some x)).set 1 (some y)) H λv H4=>∃ ys,H4 p=some (.lst ys)/\ys.length < sizeLine/\N ((σ.set 0 (some x)).set 1 (some y)) (upd H4 p (.lst (ys ++ [v])))) :
  ql3 p (qM3 K 2 (qa1 (q81 0) (qa1 (q81 1) qM4))) tAll te N (.ref T) σ H :=
 ⟨T,_,rfl,.inl (.inl hT),rfl,_,_,rfl,_,_,rfl,rfl,q48 (B:=N ((σ.set 0 (some x)).set 1 (some y)) H) h⟩
end
theorem Same.trans' {H H1 H2:Hp}(a:Same H H1)(b:Same H1 H2):Same H H2:=λc o e=>b c o (a c o e)
theorem Same.grow {H H2:Hp}{p:Addr}{o:HO}(hp:H p=none)(s:Same H H2):Same H (upd H2 p o):=λb u e=>by rw [q07 (q16 e hp)]; exact s b u e
def qT9:Expr->Option Int
 | .Constant (.int i) _ _=>some i
 | _=>none
theorem qL0 {e:Expr}{i:Int}(h:qT9 e=some i):∃ j p,e=.Constant (.int i) j p:=by
 unfold qT9 at h
 split at h
 ·cases h; exact ⟨_,_,rfl⟩
 ·cases h
def qA5:List Expr->Option (List Int)
 | []=>some []
 | e :: r=>match qT9 e with
  | some i=>(qA5 r).map (i :: ·)
  | none=>none
def tInts (l:List Int):TA:=λ_ H Q=>Q (l.map V.int) H
theorem qQ2 {X:Cx}:∀{es:List Expr}{l:List Int},qA5 es=some l->PA X es (tInts l)
 | [],l,h=>by cases h; exact q03
 | e :: r,l,h=>by
  have h:(match qT9 e with | some i=>(qA5 r).map (i :: ·) | none=>none)=some l:=h
  cases z1:qT9 e with
  | none=>rw [z1] at h; cases h
  | some i =>
   obtain ⟨j,p,rfl⟩:=qL0 z1
   rw [z1] at h
   cases z:qA5 r with
   | none=>rw [z] at h; cases h
   | some l' =>
    rw [z] at h
    cases h
    exact q00 (e:=.Constant (.int i) j p) q06 (qQ2 z) rfl
end L2
namespace K19
open PySem L2
abbrev qz0:Stmt:=top 55
abbrev qp0:Stmt:=top 57
theorem qf4 {α:Type}(f:Nat->α)(i:Nat):(List.range i).map f ++ [f i]=(List.range (i + 1)).map f:=by rw [List.range_succ,List.map_append]; rfl
theorem q68 (n:Nat){α:Type}(f:Nat->α)(h:n<=1000):((List.range n).map f).length < sizeLine:=by rw [List.length_map,List.length_range]; exact Nat.lt_of_le_of_lt h (by decide)
theorem qS3 (f:Nat->Bool)(n:Nat):((List.range n).map λj=>V.bl (f j))=((List.range n).map f).map V.bl:=by rw [List.map_map]; rfl
def Bin (c:Nat->Nat):Prop:=∀ i,c i=121∨c i=110
def hv (d:Int)(x:Int):Nat->Int
 | 0=>x
 | i + 1=>hv d x i / d
def bitC (x:Int)(i:Nat):Nat:=if hv 2 x i % 2=0 then 110 else 121
theorem bit_bin (x:Int):Bin (bitC x):=λi=>by unfold bitC; split <;> simp
theorem ny_at (y:Int):atI ("ny" : Str).cps.toList (y % 2)=some (if y % 2=0 then 110 else 121):=by
 by_cases h:y % 2=0
 ·rw [if_pos h,h]; rfl
 ·have:y % 2=1:=by omega
  rw [if_neg h,this]; rfl
theorem qY7 (n:Nat)(c:Nat->Nat)(h:n<=1000):(tx n c).length<=sizeLine:=by rw [ql4]; exact Nat.le_trans h (by decide)
theorem qn9 (n:Nat)(c:Nat->Nat)(d:Nat)(h:n<=1000):(tx n c).length + (⟨#[d]⟩:Str).length<=sizeLine:=by
 rw [ql4]
 exact Nat.le_trans (show n + 1<=1001 by omega) (by decide)
section
variable {P:Program}{w:World}{K:PySem.W.Frag}{mg:Str->Option Value}{base:Heap}
def qv8 (c:Nat):Nat:=if c=121 then 110 else 121
def spNot:Sp:=λvs H Q _=>∃ c,vs=[s1 c]/\Q (s1 (qv8 c)) H
theorem sc_not:FnScope ["_law_sign"] ["_law_sign"] (q02 qz0):=⟨rfl,rfl,rfl,by decide +kernel,rfl,by decide +kernel,by decide +kernel⟩
theorem z83 {f:Addr}{fd:FuncData}(D:Df K mg "_law_not" qz0 ["_law_sign"] f fd) (B:Bt mg):FnOk P w K mg base (CXE P w) 1 f fd ["_law_sign"] spNot:=by
 refine D.F.okN sc_not (λvs H Q E h=>?_) (λcdv A outer s H vs Q E hr h=>?_)
 ·obtain ⟨c,rfl,_⟩:=h
  rfl
 ·obtain ⟨c,rfl,q⟩:=h
  refine ⟨_,q05 (q13 (qd0 (q11 q58 (pv 0) q15 (q14 _)) q15 q15)),?_⟩
  refine ⟨_,rfl,rfl,_,rfl,?_⟩
  refine qd4 (λz=>?_) (λz=>?_)
  ·have z:s1 c=s1 121:=of_decide_eq_true z
   rw [s1_eq] at z
   rw [z] at q
   exact q
  ·have z:¬ s1 c=s1 121:=λy=>z (decide_eq_true y)
   rw [s1_eq] at z
   have e:qv8 c=121:=if_neg z
   rw [e] at q
   exact q
def spBits:Sp:=λvs H Q _=>∃(x:Int) (n:Nat),vs=[.int x,.int n]/\n<=100/\Q (.str (tx n (bitC x))) H
abbrev Nb:List Str:=["_law_number", "_law_n", "_law_row", "_law_k"]
theorem sc_bits:FnScope Nb ["_law_number", "_law_n"] (q02 qp0):=⟨rfl,rfl,rfl,by decide +kernel,rfl,by decide +kernel,by decide +kernel⟩
theorem qR3 {f:Addr}{fd:FuncData}(D:Df K mg "_law_bits" qp0 ["_law_number", "_law_n"] f fd) (B:Bt mg):FnOk P w K mg base (CXE P w) 1 f fd ["_law_number", "_law_n"] spBits:=by
 refine D.F.okN sc_bits (λvs H Q E h=>?_) (λcdv A outer s H vs Q E hr h=>?_)
 ·obtain ⟨x,n,rfl,_⟩:=h
  rfl
 ·obtain ⟨x,n,rfl,hn,q⟩:=h
  refine ⟨_,q04 (q18 (i:=2) sc_bits.nd rfl (Or.inl rfl) q15)
   (q04 (q36 PassesOwn.never rfl (q31 (by rfl) B.range (q00 (pv 1) q03)) (q09 (i:=3) sc_bits.nd rfl (Or.inl rfl))
    (q04 (q18 (i:=2) sc_bits.nd rfl (Or.inl rfl) (q24 q77 (pv 2) (q25 qd9 q15 (q24 q65 (pv 0) q06) (λ_ _=>rfl))))
    (q05 (q18 (i:=0) sc_bits.nd rfl (Or.inl rfl) (q24 qe7 (pv 0) q06)))))
   (q05 (q13 (pv 2)))),?_⟩
  refine ⟨_,rfl,_,rfl,by omega,by omega,?_⟩
  have en:((n:Nat):Int).toNat=n:=by omega
  rw [en]
  refine q49 (λi σ H2=>∃ v,σ=[some (.int (hv 2 x i)),some (.int n),some (.str (tx i (bitC x))),v]/\H2=H) ⟨none,rfl,rfl⟩ ?_ ?_
  ·rintro i σ H2 hi ⟨v,rfl,rfl⟩
   refine ⟨_,rfl,_,rfl,_,_,rfl,rfl,(by show (0:Int) < 2; decide),_,_,_,rfl,rfl,(by decide),ny_at _,_,_,rfl,rfl,qn9 i _ _ (by omega),?_⟩
   refine ⟨_,rfl,_,_,rfl,rfl,⟨by decide,by decide⟩,?_⟩
   refine ⟨some (.int (0 + i)),?_,rfl⟩
   rw [qE3 (show (if hv 2 x i % 2=0 then 110 else 121)=bitC x i from rfl)]
   rfl
  ·rintro σ H2 ⟨v,rfl,rfl⟩
   exact ⟨_,rfl,q⟩
abbrev qc7:Stmt:=top 56
def cb (b:Bool):Nat:=if b then 121 else 110
theorem qW3 (f:Nat->Bool):Bin λj=>cb (f j):=λj=>by
 show cb (f j)=121∨cb (f j)=110
 cases f j
 ·exact .inr rfl
 ·exact .inl rfl
theorem ny_b (b:Bool):atI ("ny" : Str).cps.toList (if b then 1 else 0)=some (cb b):=by cases b <;> rfl
theorem q39 {H:Hp}{r p:Addr}{o:HO}(h:upd H r o p=none):H p=none:=by
 by_cases e:p=r
 ·subst e; rw [q01] at h; cases h
 ·rw [q07 e] at h; exact h
theorem qm7 {α β:Type}(F:β->α)(f:Nat->β)(d:β)(i:Nat):(List.range i).map (λj=>F (f j)) ++ [F d]=(List.range (i + 1)).map λj=>F ((λj=>if j=i then d else f j) j):=by
 rw [<- qf4]
 congr 1
 ·refine List.map_congr_left λj hj=>?_
  show F (f j)=F (if j=i then d else f j)
  rw [if_neg (Nat.ne_of_lt (List.mem_range.mp hj))]
 ·show [F d]=[F (if i=i then d else f i)]
  rw [if_pos rfl]
def spHid (K:PySem.W.Frag):Sp:=λvs H Q _=>∃(a:Addr) (ps:List Int) (p0:Int) (m:Nat) (x:Int),vs=[.ref a,.int m,.int x]/\SqL K H a (ps.map V.int)/\ps[0]? = some p0/\1<=m/\m<=12 /\
 ∀ q H' c,Bin c->Same H H'->H q=none->H' q=some (.lst ((List.range m).map λj=>s1 (c j)))->Q (.ref q) H'
abbrev Nh:List Str:=["_law_plan_here", "_law_m", "_law_number", "_law_k", "_law_ends", "_law_row"]
abbrev Ph:List Str:=["_law_plan_here", "_law_m", "_law_number"]
theorem sc_hidden:FnScope Nh Ph (q02 qc7):=⟨rfl,rfl,rfl,by decide +kernel,rfl,by decide +kernel,by decide +kernel⟩
theorem nd_h1:(["_law_k", "_law_m", "_law_number"]:List Str).Nodup:=by decide +kernel
theorem nd_h2:(["_law_k", "_law_ends"]:List Str).Nodup:=by decide +kernel
theorem ints_at {ps:List Int}{i:Nat}{d:Int}(h:ps[i]? = some d):atI (ps.map V.int) (i:Int)=some (.int d):=q43 (by rw [List.getElem?_map,h]; rfl)
theorem qR2 {f:Addr}{fd:FuncData}(D:Df K mg "_law_hidden" qc7 Ph f fd) (B:Bt mg):FnOk P w K mg base (CXE P w) 1 f fd Ph (spHid K):=by
 refine D.F.okN sc_hidden (λvs H Q E h=>?_) (λcdv A outer s H vs Q E hr h=>?_)
 ·obtain ⟨a,ps,p0,m,x,rfl,_⟩:=h
  rfl
 ·obtain ⟨a,ps,p0,m,x,rfl,hS,hp0,m1,m12,k⟩:=h
  refine ⟨_,q04 (q41 (q11 q58 (q25 ix_list (pv 0) q06 (λ_ _=>rfl)) q06 (q14 _))
    (q05 (q13 (q38 (N':=["_law_k", "_law_m", "_law_number"]) (fm:=[none,some 1,some 2]) rfl ⟨rfl,by decide +kernel,by decide +kernel,rfl,rfl,rfl⟩
     (q31 (by rfl) B.range (q00 (pv 1) q03)) (λ_ _ _ _=>q09 (i:=0) nd_h1 rfl (Or.inl rfl)) (λ_ _ _ _=>q35)
     (λ_ _ _ _=>q25 qd9 q15 (qb4 qq8 (by rfl) B.int (by rfl) (q00 (q50 qk4 (pv 0) (q24 q65 (pv 2) (q24 q46 (pv 1) q06)) (q14 _)) q03)) (λ_ _=>rfl))))) q21)
   (q04 (q41 (q11 q58 (q25 ix_list (pv 0) q06 (λ_ _=>rfl)) q06 (q14 _))
    (q04 (q18 (i:=4) sc_hidden.nd rfl (Or.inr rfl) (q42 (q00 (q24 q65 (pv 2) (q24 q46 (pv 1) q06)) (q00 (q24 q65 (q24 qe7 (pv 2) q06) (q24 q46 (pv 1) q06)) q03))))
    (q05 (q13 (q38 (N':=["_law_k", "_law_ends"]) (fm:=[none,some 4]) rfl ⟨rfl,by decide +kernel,by decide +kernel,rfl,rfl,rfl⟩
     (q31 (by rfl) B.range (q00 (pv 1) q03)) (λ_ _ _ _=>q09 (i:=0) nd_h2 rfl (Or.inl rfl)) (λ_ _ _ _=>q35)
     (λ_ _ _ _=>q25 qd9 q15 (qb4 qq8 (by rfl) B.int (by rfl) (q00 (q50 qk4 (pv 0) (q25 (r:=qP4 K) ix_list (pv 1) (q24 q65 (pv 0) q06) (λ_ _=>rfl)) (q14 _)) q03)) (λ_ _=>rfl)))))) q21)
   (q04 (q41 (q11 q58 (q25 ix_list (pv 0) q06 (λ_ _=>rfl)) q06 (q14 _))
    (q05 (q13 (q38 (N':=["_law_k", "_law_m", "_law_number"]) (fm:=[none,some 1,some 2]) rfl ⟨rfl,by decide +kernel,by decide +kernel,rfl,rfl,rfl⟩
     (q31 (by rfl) B.range (q00 (pv 1) q03)) (λ_ _ _ _=>q09 (i:=0) nd_h1 rfl (Or.inl rfl)) (λ_ _ _ _=>q35)
     (λ_ _ _ _=>q25 qd9 q15 (qb4 qq8 (by rfl) B.int (by rfl) (q00 (q50 (r:=rIn K false) q98 (pv 0) (q54 (q00 (q24 q65 (pv 2) (pv 1)) (q00 (q24 q65 (q24 qe7 (pv 2) q06) (q24 q46 (pv 1) q06)) q03))) (by rfl)) q03)) (λ_ _=>rfl))))) q21)
   (q04 (q18 (i:=5) sc_hidden.nd rfl (Or.inl rfl) (q42 (q00 (q25 qd9 q15 (q24 q65 (q24 qe7 (pv 2) q06) q06) (λ_ _=>rfl)) q03)))
   (q04 (q36 PassesOwn.never rfl (qp2 (by rfl) B.range (q00 q06 (q00 (pv 1) q03))) (q09 (i:=3) sc_hidden.nd rfl (Or.inl rfl))
    (q05 (q26 (qk1 PySem.F.plainAttrs_list PySem.F.slot_list_append PySem.F.type_list_append q45 (pv 5) (q00
     (qd0 (PW.pt (qh7 (q11 q58 (q25 ix_list (pv 5) (q24 qe7 (q24 z80 (pv 3) q06) q06) (λ_ _=>rfl)) q15 (q14 _)) (qb2 (q11 q58 (q24 q65 (q24 qe7 (pv 2) (q24 q46 q06 (pv 3))) q06) q06 (q14 _))))) q15 q15) q03)))))
   (q05 (q13 (pv 5))))))),?_⟩
  have h0:atI (ps.map V.int) 0=some (.int p0):=ints_at (i:=0) hp0
  have mI:(0:Int) < (m:Int) + 1:=by omega
  have mI0:(0:Int) < (m:Int):=by omega
  have en:((m:Nat):Int).toNat=m:=by omega
  refine ⟨_,rfl,a,_,_,_,rfl,rfl,hS,h0,rfl,_,rfl,qd4 (λ_=>?_) (λ_=>?_)⟩
  ·refine ⟨_,rfl,_,rfl,by omega,by omega,λp hp=>?_⟩
   rw [en]
   refine q85 (λi σ H2=>∃ v,σ=[v,some (.int m),some (.int x)]/\Same H H2/\H2 p=some (.lst ((List.range i).map λj:Nat=>s1 (cb (decide ((0:Int) + (j:Int) < x % ((m:Int) + 1))))))) ⟨none,rfl,Same.new hp,q01⟩ ?_ ?_
   ·rintro i σ H2 hi ⟨v,rfl,s2,e2⟩
    refine q34 ⟨_,rfl,_,rfl,_,rfl,_,_,rfl,rfl,_,_,rfl,rfl,mI,_,_,rfl,rfl,.inr ⟨_,rfl,?_⟩⟩
    refine ⟨_,_,_,rfl,rfl,(by decide),ny_b _,_,e2,q68 _ _ (by omega),_,rfl,Same.grow hp s2,?_⟩
    rw [q01,<- qf4]
    rfl
   ·rintro σ H2 ⟨v,rfl,s2,e2⟩
    exact k p H2 _ (qW3 _) s2 hp e2
  refine ⟨_,rfl,a,_,_,_,rfl,rfl,hS,h0,rfl,_,rfl,qd4 (λ_=>?_) (λ_=>?_)⟩
  ·refine ⟨_,rfl,_,rfl,_,_,rfl,rfl,_,_,rfl,rfl,mI,_,rfl,_,_,rfl,rfl,⟨by decide,by decide⟩,_,rfl,_,_,rfl,rfl,_,_,rfl,rfl,mI,Nat.le_trans (show 2<=2 from Nat.le_refl 2) (by decide),λr hr0=>?_⟩
   refine ⟨_,rfl,_,rfl,by omega,by omega,λp hp=>?_⟩
   rw [en]
   have hpH:H p=none:=q39 hp
   have s0:Same H (upd H r (.lst [.int (x % ((m:Int) + 1)),.int (x / 64 % ((m:Int) + 1))])):=Same.new hr0
   have ap:∀ i:Nat,∃ e:Int,atI [V.int (x % ((m:Int) + 1)),V.int (x / 64 % ((m:Int) + 1))] ((0 + (i:Int)) % 2)=some (.int e):=λi=>by
    rcases (show (0 + (i:Int)) % 2=0∨(0 + (i:Int)) % 2=1 by omega) with z | z
    ·rw [z]; exact ⟨_,rfl⟩
    ·rw [z]; exact ⟨_,rfl⟩
   refine q85 (λi σ H2=>∃ v f,σ=[v,some (.ref r)]/\Same (upd H r (.lst [.int (x % ((m:Int) + 1)),.int (x / 64 % ((m:Int) + 1))])) H2/\H2 p=some (.lst ((List.range i).map λj=>s1 (cb (f j))))) ⟨none,λ_=>true,rfl,Same.new hp,q01⟩ ?_ ?_
   ·rintro i σ H2 hi ⟨v,f,rfl,s2,e2⟩
    obtain ⟨e,he⟩:=ap i
    refine q34 ⟨_,rfl,_,rfl,_,rfl,_,_,rfl,rfl,(by show (0:Int) < 2; decide),r,_,_,_,rfl,rfl,SqL.of (s2 r _ q01),he,_,_,rfl,rfl,.inr ⟨_,rfl,?_⟩⟩
    refine ⟨_,_,_,rfl,rfl,(by decide),ny_b _,_,e2,q68 _ _ (by omega),_,λj=>if j=i then decide ((0:Int) + (i:Int) < e) else f j,rfl,Same.grow hp s2,?_⟩
    rw [q01]
    exact congrArg (λz=>some (HO.lst z)) (qm7 (λb=>s1 (cb b)) f _ i)
   ·rintro σ H2 ⟨v,f,rfl,s2,e2⟩
    exact k p H2 _ (qW3 _) (s0.trans' s2) hpH e2
  refine ⟨_,rfl,a,_,_,_,rfl,rfl,hS,h0,rfl,_,rfl,qd4 (λ_=>?_) (λ_=>?_)⟩
  ·refine ⟨_,rfl,_,rfl,by omega,by omega,λp hp=>?_⟩
   rw [en]
   refine q85 (λi σ H2=>∃ v f,σ=[v,some (.int m),some (.int x)]/\Same H H2/\H2 p=some (.lst ((List.range i).map λj=>s1 (cb (f j))))) ⟨none,λ_=>true,rfl,Same.new hp,q01⟩ ?_ ?_
   ·rintro i σ H2 hi ⟨v,f,rfl,s2,e2⟩
    refine q34 ⟨_,rfl,_,rfl,_,rfl,_,_,rfl,rfl,mI0,_,rfl,_,_,rfl,rfl,⟨by decide,by decide⟩,_,rfl,_,_,rfl,rfl,_,_,rfl,rfl,mI,Nat.le_trans (show 2<=2 from Nat.le_refl 2) (by decide),λT hT=>?_⟩
    refine ⟨T,_,rfl,.inr (.inl (.inl q01)),rfl,rfl,.inr ⟨_,rfl,?_⟩⟩
    refine ⟨_,_,_,rfl,rfl,(by decide),ny_b _,_,Same.new hT p _ e2,q68 _ _ (by omega),_,λj=>if j=i then (inV (.int (0 + (i:Int))) [.int (x % m),.int (x / 64 % ((m:Int) + 1))]) else f j,rfl,Same.grow hp (s2.trans' (Same.new hT)),?_⟩
    rw [q01]
    exact congrArg (λz=>some (HO.lst z)) (qm7 (λb=>s1 (cb b)) f _ i)
   ·rintro σ H2 ⟨v,f,rfl,s2,e2⟩
    exact k p H2 _ (qW3 _) s2 hp e2
  ·refine ⟨_,rfl,_,_,rfl,rfl,⟨by decide,by decide⟩,_,_,rfl,rfl,(by show (0:Int) < 2; decide),_,_,_,rfl,rfl,(by decide),ny_at _,Nat.le_trans (show 1<=1 from Nat.le_refl 1) (by decide),λp hp=>?_⟩
   refine ⟨_,rfl,1,_,rfl,⟨by decide,by decide,by omega,by omega⟩,?_⟩
   have en1:((m:Int) - 1).toNat=m - 1:=by omega
   rw [en1]
   refine q49 (λi σ H2=>∃ v c,σ=[some (.ref a),some (.int m),some (.int x),v,none,some (.ref p)]/\Bin c/\Same H H2/\H2 p=some (.lst ((List.range (i + 1)).map λj=>s1 (c j)))) ⟨none,λ_=>(if x / 3 % 2=0 then 110 else 121),rfl,(λ_=>by split <;> simp),Same.new hp,q01⟩ ?_ ?_
   ·rintro i σ H2 hi ⟨v,c,rfl,hc,s2,e2⟩
    have fin:∀ d,(d=121∨d=110)->∃ v' c',[some (.ref a),some (.int m),some (.int x),some (.int (1 + (i:Int))),none,some (.ref p)]=[some (V.ref a),some (V.int m),some (V.int x),v',none,some (V.ref p)]/\Bin c'/\Same H (upd H2 p (.lst (((List.range (i + 1)).map λj=>s1 (c j)) ++ [s1 d]))) /\
      upd H2 p (.lst (((List.range (i + 1)).map λj=>s1 (c j)) ++ [s1 d])) p=some (.lst ((List.range (i + 1 + 1)).map λj=>s1 (c' j))):=λd hd=>by
     refine ⟨_,λj=>if j=i + 1 then d else c j,rfl,λj=>?_,Same.grow hp s2,?_⟩
     ·show (if j=i + 1 then d else c j)=121∨(if j=i + 1 then d else c j)=110
      split
      ·exact hd
      ·exact hc j
     ·rw [q01]
      exact congrArg (λz=>some (HO.lst z)) (qm7 s1 c d (i + 1))
    have ix:atI ((List.range (i + 1)).map λj=>s1 (c j)) ((1 + (i:Int) - 1) / 2)=some (s1 (c (i / 2))):=by
     have e:(1 + (i:Int) - 1) / 2=((i / 2:Nat):Int):=by omega
     rw [e]
     refine q43 ?_
     rw [List.getElem?_map,List.getElem?_range (by omega)]
     rfl
    have il:((List.range (i + 1)).map λj=>s1 (c j)).length < sizeLine:=q68 _ _ (by omega)
    refine ⟨_,rfl,.inl ⟨rfl,_,SqL.of e2⟩,_,rfl,_,rfl,_,_,rfl,rfl,_,_,rfl,rfl,⟨by decide,by decide⟩,p,_,_,_,rfl,rfl,SqL.of e2,ix,rfl,_,rfl,qd4 (λ_=>?_) (λ_=>?_)⟩
    ·exact q48 ⟨p,_,_,rfl,rfl,e2,il,fin 110 (.inr rfl)⟩
    ·refine ⟨_,rfl,_,rfl,_,_,rfl,rfl,_,_,rfl,rfl,⟨(by show (0:Int) < 3 + (1 + (i:Int)); omega),(by show (3:Int) + (1 + (i:Int)) < 1073741824; omega)⟩,_,_,rfl,rfl,(by show (0:Int) < 3; decide),rfl,_,rfl,qd4 (λ_=>?_) (λ_=>?_)⟩
     ·exact ⟨p,_,_,rfl,rfl,e2,il,fin 110 (.inr rfl)⟩
     ·exact ⟨p,_,_,rfl,rfl,e2,il,fin 121 (.inl rfl)⟩
   ·rintro σ H2 ⟨v,c,rfl,hc,s2,e2⟩
    rw [show m - 1 + 1=m by omega] at e2
    exact ⟨_,rfl,k p H2 c hc s2 hp e2⟩
abbrev qg3:Stmt:=top 58
abbrev qo3:Stmt:=top 59
abbrev qo2:Stmt:=top 60
abbrev q69:Stmt:=top 61
abbrev Pb:List Str:=["_law_number", "_law_n"]
abbrev Pdr:List Str:=["_law_cell_here", "_law_parts"]
def qN5 (K:PySem.W.Frag):Sp:=λvs H Q _=>∃(x:Int) (n:Nat) (a:Addr) (p0 p1 p2 p3 p4:Int),vs=[.int x,.int n,.ref a]/\SqL K H a ([p0,p1,p2,p3,p4].map V.int)/\1<=n/\n<=12/\∀ H' c,Bin c->Same H H'->Q (.str (tx n c)) H'
abbrev Nr:List Str:=["_law_number", "_law_n", "_law_plan_here", "_law_m", "_law_hidden_here", "_law_flips", "_law_row", "_law_q", "_law_sign"]
abbrev Pr:List Str:=["_law_number", "_law_n", "_law_plan_here"]
theorem sc_rowby:FnScope Nr Pr (q02 qg3):=⟨rfl,rfl,rfl,by decide +kernel,rfl,by decide +kernel,by decide +kernel⟩
theorem not_bin {c:Nat}(h:c=121∨c=110):qv8 c=121∨qv8 c=110:=by
 unfold qv8
 split
 ·exact .inr rfl
 ·exact .inl rfl
theorem z62 (c:Nat->Nat)(d i:Nat):tx i c ++ (⟨#[d]⟩:Str)=tx (i + 1) λj=>if j=i then d else c j:=by
 have e:tx i c=tx i λj=>if j=i then d else c j:=qt5 λj hj=>by rw [if_neg (Nat.ne_of_lt hj)]
 rw [e]
 exact qE3 (by rw [if_pos rfl])
theorem qW7 {c:Nat->Nat}{d i:Nat}(hc:Bin c)(hd:d=121∨d=110):Bin λj=>if j=i then d else c j:=λj=>by
 show (if j=i then d else c j)=121∨(if j=i then d else c j)=110
 split
 ·exact hd
 ·exact hc j
theorem z25 {f fb fh fn:Addr}{fd gb gh gn:FuncData}(D:Df K mg "_law_row_by" qg3 Pr f fd) (Db:Df K mg "_law_bits" qp0 Pb fb gb) (Dh:Df K mg "_law_hidden" qc7 Ph fh gh) (Dn:Df K mg "_law_not" qz0 ["_law_sign"] fn gn) (B:Bt mg):FnOk P w K mg base (CXE P w) 2 f fd Pr (qN5 K):=by
 refine D.F.okN sc_rowby (λvs H Q E h=>?_) (λcdv A outer s H vs Q E hr h=>?_)
 ·obtain ⟨x,n,a,p0,p1,p2,p3,p4,rfl,_⟩:=h
  rfl
 ·obtain ⟨x,n,a,p0,p1,p2,p3,p4,rfl,hS,n1,n12,k⟩:=h
  refine ⟨_,q04 (q41 (PW.pt (qh7 (q11 q58 (q25 ix_list (pv 2) q06 (λ_ _=>rfl)) q06 (q14 _)) (qb2 (q11 q58 (q24 q65 (pv 0) q06) q06 (q14 _)))))
    (q05 (q13 (q23 Db (qR3 Db B) hr q19 (q00 (pv 0) (q00 (pv 1) q03))))) q21)
   (q04 (q18 (i:=3) sc_rowby.nd rfl (Or.inl rfl) (q24 q46 q06 (q24 q65 (q25 ix_list (pv 2) q06 (λ_ _=>rfl)) (pv 1))))
   (q04 (q18 (i:=4) sc_rowby.nd rfl (Or.inl rfl) (q23 Dh (qR2 Dh B) hr q19 (q00 (pv 2) (q00 (pv 3) (q00 (pv 0) q03)))))
   (q04 (q18 (i:=5) sc_rowby.nd rfl (Or.inl rfl) (q23 Db (qR3 Db B) hr q19 (q00 (q25 ix_list (pv 2) q06 (λ_ _=>rfl)) (q00 (pv 1) q03))))
   (q04 (q18 (i:=6) sc_rowby.nd rfl (Or.inl rfl) q15)
   (q04 (q36 PassesOwn.never rfl (q31 (by rfl) B.range (q00 (pv 1) q03)) (q09 (i:=7) sc_rowby.nd rfl (Or.inl rfl))
    (q04 (q18 (i:=8) sc_rowby.nd rfl (Or.inl rfl) (q25 ix_list (pv 4) (q24 q65 (q24 q46 (pv 7) (q24 qi1 (q24 qe7 (pv 7) q06) (q25 ix_list (pv 2) q06 (λ_ _=>rfl)))) (pv 3)) (λ_ _=>rfl)))
    (q05 (q18 (i:=6) sc_rowby.nd rfl (Or.inl rfl) (q24 q77 (pv 6) (qd0 (q11 q58 (q25 qd9 (pv 5) (pv 7) (λ_ _=>rfl)) q15 (q14 _)) (q23 Dn (z83 Dn B) hr q19 (q00 (pv 8) q03)) (pv 8)))))))
   (q05 (q13 (pv 6)))))))),?_⟩
  have bits:Q (.str (tx n (bitC x))) H:=k H _ (bit_bin x) (Same.refl H)
  refine ⟨_,rfl,a,_,_,_,rfl,rfl,hS,rfl,rfl,_,rfl,qd4 (λ_=>?_) (λ_=>?_)⟩
  ·exact q48 ⟨_,rfl,_,rfl,x,n,rfl,by omega,bits⟩
  refine ⟨_,rfl,_,_,rfl,rfl,(by show (0:Int) < 31; decide),rfl,_,rfl,qd4 (λ_=>?_) (λ_=>?_)⟩
  ·exact ⟨_,rfl,_,rfl,x,n,rfl,by omega,bits⟩
  have nI:(0:Int) < (n:Int):=by omega
  have mb:0<=p1 % (n:Int)/\p1 % (n:Int) < n:=⟨Int.emod_nonneg _ (by omega),Int.emod_lt_of_pos _ nI⟩
  refine ⟨_,rfl,a,_,_,_,rfl,rfl,hS,rfl,_,rfl,_,_,rfl,rfl,nI,_,_,rfl,rfl,?_⟩
  obtain ⟨m,hm⟩:∃ m:Nat,(m:Int)=1 + p1 % (n:Int):=⟨(1 + p1 % (n:Int)).toNat,by omega⟩
  refine ⟨_,rfl,_,rfl,_,rfl,a,_,p0,m,x,(by rw [hm]; rfl),hS,rfl,by omega,by omega,λq H1 hc hb s1' hq e1=>?_⟩
  refine ⟨_,rfl,a,_,_,_,rfl,rfl,s1'.seq hS,rfl,_,rfl,p2,n,rfl,by omega,?_⟩
  refine ⟨_,rfl,_,rfl,by omega,by omega,?_⟩
  have en:((n:Nat):Int).toNat=n:=by omega
  rw [en]
  have mI:(0:Int) < 1 + p1 % (n:Int):=by omega
  refine q49 (λi σ H2=>∃ v u c,σ=[some (.int x),some (.int n),some (.ref a),some (.int (1 + p1 % (n:Int))),some (.ref q),some (.str (tx n (bitC p2))),some (.str (tx i c)),v,u]/\Bin c/\H2=H1) ⟨none,none,λ_=>121,rfl,λ_=>.inl rfl,rfl⟩ ?_ ?_
  ·rintro i σ H2 hi ⟨v,u,c,rfl,hcb,rfl⟩
   have ei:(0:Int) + (i:Int)=(i:Int):=Int.zero_add _
   have jb:0<=(0 + (i:Int) + (0 + (i:Int)) / 2 * p3) % (1 + p1 % (n:Int))/\(0 + (i:Int) + (0 + (i:Int)) / 2 * p3) % (1 + p1 % (n:Int)) < 1 + p1 % (n:Int):=⟨Int.emod_nonneg _ (by omega),Int.emod_lt_of_pos _ mI⟩
   obtain ⟨j,hj⟩:∃ j:Nat,(j:Int)=(0 + (i:Int) + (0 + (i:Int)) / 2 * p3) % (1 + p1 % (n:Int)):=⟨((0 + (i:Int) + (0 + (i:Int)) / 2 * p3) % (1 + p1 % (n:Int))).toNat,by omega⟩
   have jm:j < m:=by omega
   have ix:atI ((List.range m).map λj=>s1 (hc j)) ((0 + (i:Int) + (0 + (i:Int)) / 2 * p3) % (1 + p1 % (n:Int)))=some (s1 (hc j)):=by
    rw [<- hj]
    refine q43 ?_
    rw [List.getElem?_map,List.getElem?_range jm]
    rfl
   refine ⟨_,rfl,_,rfl,_,rfl,_,_,rfl,rfl,⟨by decide,by decide⟩,_,rfl,a,_,_,_,rfl,rfl,s1'.seq hS,rfl,_,_,rfl,rfl,.inl ⟨?_,?_⟩,_,_,rfl,rfl,_,rfl,_,_,rfl,rfl,mI,q,_,_,_,rfl,rfl,SqL.of e1,ix,?_⟩
   ·show -(2 ^ 64) < (0 + (i:Int)) / 2; omega
   ·show (0 + (i:Int)) / 2 < 2 ^ 64; omega
   refine ⟨_,rfl,_,rfl,_,rfl,_,_,_,rfl,rfl,qY7 _ _ (by omega),(by rw [ei]; exact tx_at hi),rfl,_,rfl,qd4 (λ_=>?_) (λ_=>?_)⟩
   ·refine ⟨_,rfl,hc j,rfl,_,_,rfl,rfl,qn9 i _ _ (by omega),some (.int (0 + (i:Int))),some (s1 (hc j)),λz=>if z=i then qv8 (hc j) else c z,?_,qW7 hcb (not_bin (hb j)),rfl⟩
    rw [z62 c (qv8 (hc j)) i]
    rfl
   ·refine ⟨_,rfl,_,_,rfl,rfl,qn9 i _ _ (by omega),some (.int (0 + (i:Int))),some (s1 (hc j)),λz=>if z=i then hc j else c z,?_,qW7 hcb (hb j),rfl⟩
    rw [z62 c (hc j) i]
    rfl
  ·rintro σ H2 ⟨v,u,c,rfl,hcb,rfl⟩
   exact ⟨_,rfl,k H2 c hcb s1'⟩
def z67:Sp:=λvs H Q _=>∃ c:Int,vs=[.int c]/\∀ q H' (p0 p1 p2 p3 p4:Int),Same H H'->H q=none->H' q=some (.lst ([p0,p1,p2,p3,p4].map V.int))->Q (.ref q) H'
theorem sc_plan:FnScope ["_law_cell_here"] ["_law_cell_here"] (q02 qo3):=⟨rfl,rfl,rfl,by decide +kernel,rfl,by decide +kernel,by decide +kernel⟩
theorem q22 {n:Nat}(h:n<=100):n<=sizeLine:=Nat.le_trans h (by decide)
theorem ok_plan {f fr:Addr}{fd gr:FuncData}(D:Df K mg "_law_plan" qo3 ["_law_cell_here"] f fd) (Dr:Df K mg "_law_draws" q95 Pdr fr gr) (B:Bt mg):FnOk P w K mg base (CXE P w) 2 f fd ["_law_cell_here"] z67:=by
 refine D.F.okN sc_plan (λvs H Q E h=>?_) (λcdv A outer s H vs Q E hr h=>?_)
 ·obtain ⟨c,rfl,_⟩:=h
  rfl
 ·obtain ⟨c,rfl,k⟩:=h
  refine ⟨_,q05 (q13 (q23 Dr (qi2 Dr B) hr q19 (q00 (pv 0) (q00 (q42 (q00 q06 (q00 q06 (q00 q06 (q00 q06 (q00 q06 q03)))))) q03)))),?_⟩
  refine ⟨_,rfl,q22 (show 5<=100 by decide),λp hp=>?_⟩
  refine ⟨c,p,[5,12,8192,7,8192],rfl,SqL.of q01,by decide,by decide,λq H' sm hq e=>?_⟩
  exact k q H' _ _ _ _ _ ((Same.new hp).trans' sm) (q39 hq) e
def z66 (K:PySem.W.Frag):Sp:=λvs H Q _=>∃(a:Addr) (xs:List Int) (n:Nat) (c:Int),vs=[.ref a,.int n,.int c]/\SqL K H a (xs.map V.int)/\xs.length<=100/\1<=n/\n<=12 /\
 ∀ q H' (r:Nat->Nat->Nat),(∀ i,Bin (r i))->Same H H'->H q=none->H' q=some (.lst ((List.range xs.length).map λi=>V.str (tx n (r i))))->Q (.ref q) H'
abbrev Ns:List Str:=["_law_cells", "_law_n", "_law_cell_here", "_law_plan_here"]
abbrev Pss:List Str:=["_law_cells", "_law_n", "_law_cell_here"]
theorem sc_rows:FnScope Ns Pss (q02 qo2):=⟨rfl,rfl,rfl,by decide +kernel,rfl,by decide +kernel,by decide +kernel⟩
theorem nd_r:(["_law_one", "_law_n", "_law_plan_here"]:List Str).Nodup:=by decide +kernel
theorem ok_rows {f fr fp fb:Addr}{fd gr gp gb:FuncData}(D:Df K mg "_law_rows" qo2 Pss f fd) (Dr:Df K mg "_law_draws" q95 Pdr fr gr) (Dp:Df K mg "_law_plan" qo3 ["_law_cell_here"] fp gp) (Db:Df K mg "_law_row_by" qg3 Pr fb gb)
  (Gp:FnOk P w K mg base (CXE P w) 2 fp gp ["_law_cell_here"] z67) (Gb:FnOk P w K mg base (CXE P w) 2 fb gb Pr (qN5 K)) (B:Bt mg):FnOk P w K mg base (CXE P w) 3 f fd Pss (z66 K):=by
 refine D.F.okN sc_rows (λvs H Q E h=>?_) (λcdv A outer s H vs Q E hr h=>?_)
 ·obtain ⟨a,xs,n,c,rfl,_⟩:=h
  rfl
 ·obtain ⟨a,xs,n,c,rfl,hS,hl,n1,n12,k⟩:=h
  refine ⟨_,q04 (q18 (i:=3) sc_rows.nd rfl (Or.inr rfl) (q23 Dp Gp hr q19 (q00 (pv 2) q03)))
   (q05 (q13 (q38 (N':=["_law_one", "_law_n", "_law_plan_here"]) (fm:=[none,some 1,some 3]) rfl ⟨rfl,by decide +kernel,by decide +kernel,rfl,rfl,rfl⟩
    (q27 (pv 0)) (λ_ _ _ _=>q09 (i:=0) nd_r rfl (Or.inl rfl)) (λ_ _ _ _=>q35)
    (λ_ _ _ _=>q23 Db Gb hr q19 (q00 (q25 (r:=qP4 K) ix_list (q23 Dr (qi2 Dr B) (hr.mono (by decide)) q19 (q00 (pv 0) (q00 (q42 (q00 q06 q03)) q03))) q06 (λ_ _=>rfl)) (q00 (pv 1) (q00 (pv 2) q03))))))),?_⟩
  refine ⟨_,rfl,c,rfl,λpl H1 p0 p1 p2 p3 p4 sm1 hpl e1=>?_⟩
  refine ⟨_,rfl,a,rfl,⟨_,sm1.seq hS⟩,λp hp=>?_⟩
  have hpH:H p=none:=by
   cases z:H p with
   | none=>rfl
   | some o=>rw [sm1 p o z] at hp; cases hp
  refine q57 (K:=K) (a:=a) (xs:=xs.map V.int) (λi σ H2=>∃ v r,σ=[v,some (.int n),some (.ref pl)]/\(∀ i,Bin (r i))/\Same H1 H2/\H2 p=some (.lst ((List.range i).map λj=>V.str (tx n (r j)))))
   ⟨none,λ_ _=>121,rfl,λ_ _=>.inl rfl,Same.new hp,q01⟩ (λi σ H2 _ ⟨_,_,_,_,s2,_⟩=>s2.seq (sm1.seq hS)) ?_ ?_
  ·rintro i y σ H2 hi ⟨v,r,rfl,hr',s2,e2⟩
   rw [List.getElem?_map] at hi
   cases z:xs[i]? with
   | none=>rw [z] at hi; cases hi
   | some d =>
    rw [z] at hi
    cases hi
    have il:i < xs.length:=(List.getElem?_eq_some_iff.mp z).1
    refine q34 ⟨_,rfl,q22 (show 1<=100 by decide),λt ht=>?_⟩
    refine ⟨d,t,[8192],rfl,SqL.of q01,by decide,by decide,λu H3 s3 hu e3=>?_⟩
    have s23:Same H2 H3:=(Same.new ht).trans' s3
    refine ⟨u,_,_,.int (qG6 d % 8192),rfl,rfl,SqL.of e3,rfl,_,rfl,_,rfl,?_⟩
    refine ⟨_,n,pl,p0,p1,p2,p3,p4,rfl,(s2.trans' s23).seq (SqL.of e1),n1,n12,λH4 cc hcc s4=>?_⟩
    refine ⟨_,s4 p _ (s23 p _ e2),q68 _ _ (by omega),_,λj=>if j=i then cc else r j,rfl,λj=>?_,Same.grow hp (s2.trans' (s23.trans' s4)),?_⟩
    ·show Bin (if j=i then cc else r j)
     split
     ·exact hcc
     ·exact hr' j
    ·rw [q01]
     exact congrArg (λz=>some (HO.lst z)) (qm7 (λc=>V.str (tx n c)) r cc i)
  ·rintro σ H2 ⟨v,r,rfl,hr',s2,e2⟩
   rw [List.length_map] at e2
   exact k p H2 r hr' (sm1.trans' s2) hpH e2
def retE:List Stmt->Expr
 | [.Return (some e) _]=>e
 | _=>.Constant .none 0 ⟨0,0,0,0⟩
def subA:Expr->Expr
 | .Subscript a _ _=>a
 | e=>e
def subB:Expr->Expr
 | .Subscript _ b _=>b
 | e=>e
def lstE:Expr->List Expr
 | .List es _=>es
 | _=>[]
@[irreducible] def e_ci:Expr:=subB (retE (q08 q69))
@[irreducible] def e_cd:Expr:=subA (subB (retE (q08 q69)))
@[irreducible] def z48:List Expr:=lstE (subA (retE (q08 q69)))
theorem z54:q08 q69=[.Return (some (.Subscript (.List z48 ⟨278,11,278,51⟩) e_ci ⟨278,11,278,88⟩)) ⟨278,4,278,88⟩]:=by delta e_ci z48; rfl
theorem ci_eq:e_ci=.Subscript e_cd (.Constant (.int 0) 0 ⟨278,85,278,86⟩) ⟨278,52,278,87⟩:=by delta e_ci e_cd; rfl
theorem cd_eq:e_cd=.Call (.Name "_law_draws" ⟨278,52,278,62⟩) [.Name "_law_cell_here" ⟨278,63,278,77⟩,.List [.Constant (.int 13) 0 ⟨278,80,278,82⟩] ⟨278,79,278,83⟩] [] ⟨278,52,278,84⟩:=by delta e_cd; rfl
theorem cl_ints:qA5 z48=some [3,4,5,2,6,3,12,4,1,7,5,9,4]:=by delta z48; rfl
theorem z56:qX2 e_ci:=by delta e_ci; exact λ_ _=>rfl
def spCount:Sp:=λvs H Q _=>∃ c:Int,vs=[.int c]/\∀(n:Nat) H',1<=n->n<=12->Same H H'->Q (.int n) H'
theorem qZ7:FnScope ["_law_cell_here"] ["_law_cell_here"] (q02 q69):=⟨rfl,rfl,rfl,by decide +kernel,rfl,by decide +kernel,by decide +kernel⟩
theorem cnt_at (i:Nat)(h:i < 13):∃ n:Nat,1<=n/\n<=12/\atI (([3,4,5,2,6,3,12,4,1,7,5,9,4]:List Int).map V.int) (i:Int)=some (.int n):=by
 match i,h with
 | 0,_=>exact ⟨3,by decide,by decide,rfl⟩
 | 1,_=>exact ⟨4,by decide,by decide,rfl⟩
 | 2,_=>exact ⟨5,by decide,by decide,rfl⟩
 | 3,_=>exact ⟨2,by decide,by decide,rfl⟩
 | 4,_=>exact ⟨6,by decide,by decide,rfl⟩
 | 5,_=>exact ⟨3,by decide,by decide,rfl⟩
 | 6,_=>exact ⟨12,by decide,by decide,rfl⟩
 | 7,_=>exact ⟨4,by decide,by decide,rfl⟩
 | 8,_=>exact ⟨1,by decide,by decide,rfl⟩
 | 9,_=>exact ⟨7,by decide,by decide,rfl⟩
 | 10,_=>exact ⟨5,by decide,by decide,rfl⟩
 | 11,_=>exact ⟨9,by decide,by decide,rfl⟩
 | 12,_=>exact ⟨4,by decide,by decide,rfl⟩
theorem z34 {f fr:Addr}{fd gr:FuncData}(D:Df K mg "_law_count" q69 ["_law_cell_here"] f fd) (Dr:Df K mg "_law_draws" q95 Pdr fr gr) (B:Bt mg):FnOk P w K mg base (CXE P w) 2 f fd ["_law_cell_here"] spCount:=by
 refine D.F.okN qZ7 (λvs H Q E h=>?_) (λcdv A outer s H vs Q E hr h=>?_)
 ·obtain ⟨c,rfl,_⟩:=h
  rfl
 ·obtain ⟨c,rfl,k⟩:=h
  rw [z54]
  have x1:=q42 (X:=(qD2 (CXE P w) P w K mg base ["_law_cell_here"] "_law_count" (q02 q69) f cdv A outer s H E).nox) (pos:=⟨278,11,278,51⟩) (qQ2 cl_ints)
  have x2:PE (qD2 (CXE P w) P w K mg base ["_law_cell_here"] "_law_count" (q02 q69) f cdv A outer s H E).nox e_cd (qJ3 (qB8 K) [] E0 (qh4 (qE8 0) (qh4 (tLst (qh4 (tC (.int 13)) qX6)) qX6))):=by
   rw [cd_eq]
   exact q23 Dr (qi2 Dr B) hr q19 (q00 (pv 0) (q00 (q42 (q00 q06 q03)) q03))
  have x3:PE (qD2 (CXE P w) P w K mg base ["_law_cell_here"] "_law_count" (q02 q69) f cdv A outer s H E).nox e_ci (tOp (qP4 K) (qJ3 (qB8 K) [] E0 (qh4 (qE8 0) (qh4 (tLst (qh4 (tC (.int 13)) qX6)) qX6))) (tC (.int 0))):=by
   rw [ci_eq]
   exact q25 ix_list x2 q06 (λ_ _=>rfl)
  refine ⟨_,q05 (q13 (q25 ix_list x1 x3 z56)),?_⟩
  refine ⟨q22 (show 13<=100 by decide),λg hg=>?_⟩
  refine ⟨_,rfl,q22 (show 1<=100 by decide),λt ht=>?_⟩
  refine ⟨c,t,[13],rfl,SqL.of q01,by decide,by decide,λu H3 s3 hu e3=>?_⟩
  have db:0<=qG6 c % 13/\qG6 c % 13 < 13:=⟨Int.emod_nonneg _ (by decide),Int.emod_lt_of_pos _ (by decide)⟩
  obtain ⟨n,n1,n12,en⟩:=cnt_at (qG6 c % 13).toNat (by omega)
  have e:(((qG6 c % 13).toNat:Nat):Int)=qG6 c % 13:=by omega
  rw [e] at en
  have s03:=(Same.new ht).trans' s3
  refine ⟨u,_,_,.int (qG6 c % 13),rfl,rfl,SqL.of e3,rfl,g,_,_,.int n,rfl,rfl,SqL.of (s03 g _ q01),en,?_⟩
  exact k n H3 n1 n12 ((Same.new hg).trans' s03)
end
end K19
namespace L2
open PySem PySem.Spec PyProof.Rows
section
variable {X:Cx}{pos:Pos}
theorem ps_weak {X:Cx}{st:Stmt}{t t':TS}(h:PS X st t)(hm:∀ D σ H,t' D σ H->t D σ H):PS X st t':=λpins s σ H D I q=>h pins s σ H D I (hm D σ H q)
end
section
variable {K:PySem.W.Frag}{T p:Addr}{te:TE}{N:St->Hp->Prop}{σ:St}{H:Hp}{x y z u:V}
end
def Ite (x:Str):It:=⟨λi _=>i < x.length,λi H v H'=>∃ T,v=.ref T/\H T=none/\H'=upd H T (.tup [.int i,sg x i]),λi _=>x.length<=i⟩
theorem z51 {P:Program}{w:World}{A:Around}(hh:A.handled=none)(it:Addr)(x:Str) :
  Draws P w A it [it] x.length (λi v=>∃ u,v=.str ⟨#[x.cps.getD i 0]⟩ u) (λi h=>StrIt h it x i) where
 live:=λ_ _ st=>let ⟨o,ho,_⟩:=st.obj; ⟨o,ho⟩
 frame:=λ_ _ _ st hk=>st.at λo e=>hk it (by simp) o e
 item:=λi s Q E hi st hQ=>qA1 st (sg_at hi) λh' t tk st' sb=>hQ _ h' tk ⟨t,rfl⟩ st' sb
 done:=λs Q E st hE=>qp6 hh st (Array.getElem?_eq_none (Nat.le_refl _)) hE
section
variable {P:Program}{w:World}{K:PySem.W.Frag}
def EnSt (e it:Addr)(x:Str)(i:Nat)(h:Heap):Prop:=(∃ old,IsEnum h e it i old)/\StrIt h it x i
theorem qN0 {elts:List Expr}{k:Nat}{pos:Pos}(e it:Addr)(hei:e≠it)(x:Str):Turn P w K (.Tuple elts k pos) (Ite x) [e,it] e (EnSt e it x) where
 mem:=by simp
 obj:=λi h st b hb=>by
  obtain ⟨⟨old,he⟩,st⟩:=st
  rcases List.mem_cons.mp hb with rfl | hb
  ·exact ⟨_,he,λv q=>by cases q⟩
  ·rw [List.mem_singleton.mp hb]; exact st.obj
 keep:=λi h h' st k=>by
  obtain ⟨⟨old,he⟩,st⟩:=st
  exact ⟨⟨old,k e (by simp) _ he⟩,st.at λo q=>k it (by simp) o q⟩
 item:=by
  intro X hP hw hK hc i pins s σ H E I hf st hg
  subst hP hw hK
  have W:=WalksT.enumerateD (A:=X.A) (z51 (P:=X.prog) (w:=X.w) (A:=X.A.in1) (I.ok.hd hc) it x) e hei (by simpa using hei) (by simp)
  refine W.item i s _ _ hg st λT vals h' tk hv hT hq mid kp=>⟨_,rfl,?_⟩
  refine W.go elts k pos i T { s with heap:=h',toks:=tk } _ _ mid λh'' st' kp'=>?_
  obtain ⟨t,y,⟨u,rfl⟩,rfl⟩:=hv
  have nT:T∉[e,it]:=W.apart i T h' mid
  have hq2:h''.IsTuple T #[Value.int (i:Int) t,Value.str ⟨#[x.cps.getD i 0]⟩ u]:=by
   obtain ⟨o,h1,r⟩:=hq
   exact ⟨o,kp' T o nT h1,r⟩
  have fr:H T=none:=I.hok.fresh hT
  have I1:Inv X pins σ (upd H T (.tup [.int i,sg x i])) { s with heap:=h'',toks:=tk }:=by
   refine I.turnLaid (fp:=[e,it]) hf (λb o hb q=>kp' b o hb (kp b o hb q)) hT nT ?_
   exact ⟨by show 2<=sizeLine; rw [sizeLine_eq]; omega,_,.cons ⟨t,rfl⟩ (.cons ⟨u,rfl⟩ .nil),hq2⟩
  refine ⟨.ref T,_,I1,rfl,⟨T,rfl,fr,rfl⟩,st',λb hb=>?_⟩
  have nb:b≠T:=λq=>nT (q ▸ hb)
  rw [q07 nb]
  exact (hf b hb).1
 done:=by
  intro X hP hw hK hc i pins s σ H E I hf st hg
  subst hP hw hK
  obtain ⟨⟨old,he⟩,st⟩:=st
  have hx:x.cps[i]? = none:=Array.getElem?_eq_none hg
  have hT:s.TypeIs (.ref e) "enumerate" := ⟨_,he,rfl⟩
  unfold pyNext
  refine wpAny_bind (wpAny_attempt (wpAny_callSpecial?_slot (name:=Str.ofString "__next__") hT F.slot_enumerate_next
   (wpAny_call_entry F.slot_enumerate_next hT F.entry_enumerate_next ?_ (F.args_enumerate_next_1 _))))
  show wpAny _ _ (field (.ref e) 2 >>= _) _ _ _
  refine wpAny_bind (wpAny_field he rfl (x:=.ref it) rfl ?_)
  refine wpAny_bind (qp6 (I.ok.hd hc) st hx λh' y he' hx'=>?_)
  obtain ⟨o,ho,hcl⟩:=hx'
  refine wpAny_bind (wpAny_isInstance (T := "StopIteration") (b:=true) ⟨o,ho,hcl⟩ isSubtype_stop ?_)
  exact wpAny_pure ⟨rfl,I.turnedL (fp:=[e,it]) (t':=s.toks) hf λb o hb q=>he' b o (λz=>hb (by simp [z])) q⟩
 self:=λA i s Q E st h=>by
  obtain ⟨⟨old,he⟩,_⟩:=st
  exact wpAny_pyIter_enum he h
end
section
variable {X:Cx}
def iEnum (ta:TA):TI:=λσ H R=>ta σ H λvs H1=>∃ x,vs=[.str x]/\R (Ite x) H1
theorem qu9 {elts:List Expr}{k:Nat}{tp:Pos}{a:Expr}{ta:TA}{p pos:Pos}(hg:Gl X "enumerate") (hm:X.mg "enumerate" = none) (ha:PA X [a] ta) (hs:starEach [a] X.env=[(false,eval a X.env)]:=by rfl) :
  PI X (.Tuple elts k tp) (.Call (.Name "enumerate" p) [a] [] pos) (iEnum ta):=by
 intro pins s σ H R I h
 refine Call_ (qi5 I hg hm boot_enumerate (PyProof.Rows.callWith_type1 (thn (ha pos pins s σ H _ I h) λus s1 ⟨vs,H1,I1,r1,q1⟩=>?_) hs rfl))
 obtain ⟨x,rfl,q⟩:=q1
 obtain ⟨u,rfl,ru⟩:=r1.one
 obtain ⟨t,rfl⟩:=ru
 refine call_enumerate_str λh' he st hz kp=>wpAny_pyIter_enum (s:={ s1 with heap:=h' }) he ?_
 have hst:StrIt h' s1.heap.objs.size x 0:=⟨_,t,st,by unfold strIterType; split <;> simp⟩
 refine ⟨_,[s1.heap.objs.size + 1,s1.heap.objs.size],_,_,H1,rfl,I1.kept (t':=s1.toks) kp,qN0 _ _ (Nat.succ_ne_self _) x,⟨⟨_,by simpa using he⟩,hst⟩,λb hb=>?_,q⟩
 have hb':s1.heap.objs.size<=b:=by
  simp only [List.mem_cons,List.not_mem_nil,or_false] at hb
  rcases hb with rfl | rfl
  ·exact Nat.le_succ _
  ·exact Nat.le_refl _
 exact I1.fpOk hb' (I1.hok.fresh hb')
end
section
variable {g:TG}{tb:TS}{D:Ends}{σ:St}{H:Hp}{x:Str}
theorem qH1 (Pv:Nat->St->Hp->Prop)(h0:Pv 0 σ H)
  (hs:∀ i T σ H,i < x.length->H T=none->Pv i σ H->g (.ref T) σ (upd H T (.tup [.int i,sg x i])) λσ2 H2=>tb { D with nx:=Pv (i + 1),ct:=Pv (i + 1),bk:=D.nx } σ2 H2) (hd:∀ σ H,Pv x.length σ H->D.nx σ H) :
  ∃ W:Nat->Nat->St->Hp->Prop,(∃ m,W 0 m σ H)/\∀ i m σ H,W i m σ H ->
   ((Ite x).stop i H/\D.nx σ H)∨((Ite x).go i H/\∃ N:St->Hp->Prop,(∀ σ' H',N σ' H'->∃ m',m' < m/\W (i + 1) m' σ' H')/\∀ v H',(Ite x).yld i H v H'->g v σ H' λσ2 H2=>tb { D with nx:=N,ct:=N,bk:=D.nx } σ2 H2):=by
 refine ⟨λi m σ H=>m=x.length - i/\i<=x.length/\Pv i σ H,⟨x.length,by simp,Nat.zero_le _,h0⟩,?_⟩
 rintro i m σ H ⟨rfl,hi,p⟩
 by_cases hlt:i < x.length
 ·refine .inr ⟨hlt,Pv (i + 1),λσ' H' p'=>⟨x.length - (i + 1),by omega,rfl,hlt,p'⟩,λv H' y=>?_⟩
  obtain ⟨T,rfl,hT,rfl⟩:=y
  exact hs i T σ H hlt hT p
 ·have e:i=x.length:=by omega
  subst e
  exact .inl ⟨Nat.le_refl _,hd σ H p⟩
end
section
variable {p:Addr}{g:TG}{tt:TT}{te:TE}{Q:Hp->Prop}{σ0:St}{H0:Hp}{x:Str}
theorem qI4 (Pv:Nat->St->Hp->Prop)(h0:Pv 0 σ0 H0)(hs:∀ i T σ H,i < x.length->H T=none->Pv i σ H->ql3 p g tt te (Pv (i + 1)) (.ref T) σ (upd H T (.tup [.int i,sg x i])))(hd:∀ σ H,Pv x.length σ H->Q H) :
  qX7 (Ite x) p g tt te σ0 H0 Q:=by
 refine ⟨λi m σ H=>m=x.length - i/\i<=x.length/\Pv i σ H,⟨x.length,by simp,Nat.zero_le _,h0⟩,?_⟩
 rintro i m σ H ⟨rfl,hi,r⟩
 by_cases hlt:i < x.length
 ·refine .inr ⟨hlt,Pv (i + 1),λσ' H' r=>⟨x.length - (i + 1),by omega,rfl,hlt,r⟩,λv H' y=>?_⟩
  obtain ⟨T,rfl,hT,rfl⟩:=y
  exact hs i T σ H hlt hT r
 ·have e:i=x.length:=by omega
  subst e
  exact .inl ⟨Nat.le_refl _,hd σ H r⟩
end
abbrev TBd:=St->Hp->(St->Hp->Prop)->Prop
def PB (X:Cx)(act:Sem Unit)(t:TBd):Prop :=
 ∀(pins:List (Addr×Obj)) (s:Shared) (σ:St) (H:Hp) (Q:St->Hp->Prop),Inv X pins σ H s->t σ H Q ->
  wpAny (model X.prog X.w) X.A act (λ_ s'=>∃ σ' H',Inv X pins σ' H' s'/\Q σ' H') (λ_ _=>False) s
def qB7 (J:It)(g:TG)(tt:TT)(tb:TBd)(σ0:St)(H0:Hp)(Q:St->Hp->Prop):Prop :=
 ∃ W:Nat->Nat->St->Hp->Prop,(∃ m,W 0 m σ0 H0)/\∀ i m σ H,W i m σ H ->
  (J.stop i H/\Q σ H)∨(J.go i H/\∃ N:St->Hp->Prop,(∀ σ' H',N σ' H'->∃ m',m' < m/\W (i + 1) m' σ' H')/\∀ x H1,J.yld i H x H1->g x σ H1 λσ2 H2=>tt σ2 H2 λb H3 =>
   if b=true then tb σ2 H3 N else N σ2 H3)
def tEmit (te:TE)(p:Addr):TBd:=λσ H N=>te σ H λv H4=>∃ ys,H4 p=some (.lst ys)/\ys.length < sizeLine/\N σ (upd H4 p (.lst (ys ++ [v])))
def tNest (wi:TI)(g:TG)(tt:TT)(tb:Addr->TBd)(p:Addr):TBd:=λσ H N=>wi σ H λJ H1=>qB7 J g tt (tb p) σ H1 N
def tCompN (fm:List (Option Nat))(wi:TI)(g:TG)(tt:TT)(tb:Addr->TBd):TE:=λσ H Q=>wi σ H λJ H1=>∀ p,H1 p=none ->
 qB7 J g tt (tb p) (seeσ fm σ) (upd H1 p (.lst [])) λ_ H2=>Q (.ref p) H2
def qx8 (ip:Pos)(tg:Expr)(ifs:List Expr)(act:Sem Unit)(e:Expr)(d:Nat)(it acc:Value)(env:Env):Sem Fin:=do
 standAt ip
 match <- pyNext it with
 | none=>pure (.done .next)
 | some v =>
  letOwnedTupleGo tg it v
  assign tg env v
  let mut ok:=true
  for c in ifs do
   if ok then ok <- isTrue c env (eval c env)
  if ok then
   act
  again (.compLoop e d it acc env)
def qU7 (elt:Expr)(acc:Value)(env:Env):Sem Unit:=do let _ <- call (.builtin "list.append") [acc,<- eval elt env]
def qG3 (cl:Comprehension)(e:Expr)(d:Nat)(acc:Value)(env:Env):Sem Unit:=do
 let x <- eval cl.iter env
 standAt cl.iter.pos
 let x <- foldedSetIterable cl.iter env x
 let _ <- runOwn (.compStart e d (<- holding [x] (pyIter x)) acc env) env
def qM0 (elt:Expr)(gens:List Comprehension)(scope:Scope)(pos:Pos)(d:Nat)(acc:Value)(env:Env):Sem Unit :=
 match gens[d + 1]? with
 | some g=>qG3 g (.ListComp elt gens scope pos) (d + 1) acc env
 | none=>qU7 elt acc env
theorem qE5 {elt:Expr}{gens:List Comprehension}{scope:Scope}{pos:Pos}{d:Nat}{cl:Comprehension}(h1:gens[d]? = some cl)(h2:cl.is_async=0)(h3:∀ g,gens[d + 1]? = some g->g.is_async=0)(it acc:Value)(env:Env) :
  compTurn (.ListComp elt gens scope pos) d it acc env=qx8 cl.iter.pos cl.target cl.ifs (qM0 elt gens scope pos d acc env) (.ListComp elt gens scope pos) d it acc env:=by
 unfold compTurn qx8 qM0
 simp only [h1,h2,bne_self_eq_false,Bool.false_eq_true,if_false]
 cases e:gens[d + 1]? with
 | none=>rfl
 | some g =>
  have h:=h3 g e
  simp only [h,qG3,bne_self_eq_false,Bool.false_eq_true,if_false,bind_assoc,pure_bind]
  rfl
section
variable {X:Cx}{elt iter tg:Expr}{gens:List Comprehension}{scope:Scope}{cpos:Pos}{ifs:List Expr}{d:Nat}{ip:Pos}{act:Sem Unit}{g:TG}{tt:TT}{tb:TBd}{te:TE}{acc:Value}
theorem loopD {R:Result->Shared->Prop}{pins:List (Addr×Obj)}{s1:Shared}{it:Addr}{fp:List Addr}{tn:Nat->Heap->Prop}{J:It}{Q:St->Hp->Prop}{H0:Hp}{σ0:St}
  (hc:X.calm=true) (hx:∀ v s,X.xe v s->False) (hq:∀ it,compTurn (.ListComp elt gens scope cpos) d it acc X.env=qx8 ip tg ifs act (.ListComp elt gens scope cpos) d it acc X.env) (hg:PG X tg g) (ht:qM2 X ifs tt) (hb:PB X act tb)
  (T:Turn X.prog X.w X.K tg J fp it tn) (hfp:∀ b∈fp,qj5 X pins H0 b) (I:Inv X pins σ0 H0 s1) (st:tn 0 s1.heap) (blk:qB7 J g tt tb σ0 H0 Q)
  (hR:∀ σ' H' s',Inv X pins σ' H' s'->Q σ' H'->R (.ok .next) s') :
  codeAny (model X.prog X.w) X.A (.compLoop (.ListComp elt gens scope cpos) d (.ref it) acc X.env) R s1:=by
 obtain ⟨W,⟨m0,w0⟩,turn⟩:=blk
 have stat:∀{H':Hp},(∀ b∈fp,H' b=none)->∀ b∈fp,qj5 X pins H' b:=λhn b hb=>⟨hn b hb,(hfp b hb).2⟩
 refine codeAny_loop rfl (λn s'=>∃ i σ' H',Inv X pins σ' H' s'/\tn i s'.heap/\(∀ b∈fp,H' b=none)/\W i n σ' H') (λn s2 hI=>?_) m0 ⟨0,σ0,H0,I,st,λb hb=>(hfp b hb).1,w0⟩
 obtain ⟨i,σ2,H2,I2,st2,fr2,w2⟩:=hI
 show wpAny _ X.A ((compTurn (.ListComp elt gens scope cpos) d (.ref it) acc X.env).onRaise λx=>do noteFrame x X.env; theTreesLotGoes x) _ _ s2
 refine wpAny_noted ?_
 rw [hq]
 unfold qx8
 have lift:∀{α:Type} {t:Sem α} {Q1 Q2:α->Shared->Prop} {E2:Value->Shared->Prop} {s':Shared},wpAny (model X.prog X.w) X.A t Q1 (λ_ _=>False) s'->(∀ a s'',Q1 a s''->Q2 a s'')->wpAny (model X.prog X.w) X.A t Q2 E2 s' :=
  λh k=>wpAny_mono h k λ_ _ z=>z.elim
 have liftX:∀{α:Type} {t:Sem α} {Q1 Q2:α->Shared->Prop} {E2:Value->Shared->Prop} {s':Shared},wpAny (model X.prog X.w) X.A t Q1 X.xe s'->(∀ a s'',Q1 a s''->Q2 a s'')->wpAny (model X.prog X.w) X.A t Q2 E2 s' :=
  λh k=>wpAny_mono h k λv s z=>(hx v s z).elim
 rcases turn i n σ2 H2 w2 with ⟨stop,qn⟩ | ⟨go,N,hN,step⟩
 ·refine wpAny_bind (wpAny_standAt (wpAny_bind (lift (T.done X rfl rfl rfl hc i pins s2 σ2 H2 _ I2 (stat fr2) st2 stop) λr s3 q=>?_)))
  obtain ⟨hr,I3⟩:=q
  subst hr
  exact wpAny_pure (hR σ2 H2 s3 I3 qn)
 ·refine wpAny_bind (wpAny_standAt (wpAny_bind (lift (T.item X rfl rfl rfl hc i pins s2 σ2 H2 _ I2 (stat fr2) st2 go) λr s3 q=>?_)))
  obtain ⟨u,hr,h3⟩:=q
  subst hr
  refine wpAny_bind (lift h3 λ_ s4 q4=>?_)
  obtain ⟨x,H4,I4,r4,y4,st4,fr4⟩:=q4
  have I4':=I4.pinned (stat fr4) (T.obj _ _ st4)
  refine wpAny_bind (liftX (hg _ s4 σ2 H4 x u _ I4' r4 (step x H4 y4)) λ_ s5 q5=>?_)
  obtain ⟨σ5,H5,I5,q5⟩:=q5
  refine wpAny_bind (liftX (ht _ s5 σ5 H5 _ I5 q5) λb s6 q6=>?_)
  obtain ⟨H6,I6,q6⟩:=q6
  have again:∀{σ7:St} {H7:Hp} {s7:Shared} {m':Nat},Inv X (pins ++ qh9 fp s4.heap) σ7 H7 s7->W (i + 1) m' σ7 H7 ->
    ∃ i σ' H',Inv X pins σ' H' s7/\tn i s7.heap/\(∀ b∈fp,H' b=none)/\W i m' σ' H':=λ{σ7 H7 s7 m'} I7 w7=>by
   refine ⟨i + 1,σ7,H7,I7.unpinned,T.keep _ _ _ st4 λb hb o e=>(I7.pin (b,o) (List.mem_append_right _ (List.mem_append_right _ (q66 hb e)))).1,λb hb=>?_,w7⟩
   obtain ⟨o,e,d⟩:=T.obj _ _ st4 b hb
   exact (I7.pin (b,o) (List.mem_append_right _ (List.mem_append_right _ (q66 hb e)))).2.1
  cases b with
  | false =>
   rw [if_neg Bool.false_ne_true] at q6
   obtain ⟨m',hm,w7⟩:=hN _ _ q6
   exact wpAny_pure ⟨rfl,m',hm,again I6 w7⟩
  | true =>
   rw [if_pos rfl] at q6
   refine wpAny_bind (lift (hb _ s6 σ5 H6 _ I6 q6) λ_ s7 q7=>?_)
   obtain ⟨σ7,H7,I7,n7⟩:=q7
   obtain ⟨m',hm,w7⟩:=hN _ _ n7
   exact wpAny_pure ⟨rfl,m',hm,again I7 w7⟩
theorem qv2 {p:Addr}(hx:∀ v s,X.xe v s->False)(he:PE X elt te):PB X (qU7 elt (.ref p) X.env) (tEmit te p):=by
 intro pins s σ H Q I q
 have liftX:∀{α:Type} {t:Sem α} {Q1 Q2:α->Shared->Prop} {E2:Value->Shared->Prop} {s':Shared},wpAny (model X.prog X.w) X.A t Q1 X.xe s'->(∀ a s'',Q1 a s''->Q2 a s'')->wpAny (model X.prog X.w) X.A t Q2 E2 s' :=
  λh k=>wpAny_mono h k λv s z=>(hx v s z).elim
 unfold qU7
 refine wpAny_bind (liftX (he _ s σ H _ I q) λu s7 q7=>?_)
 obtain ⟨v,H7,I7,r7,ys,hp,hz,n7⟩:=q7
 have ap:=q45 (X:=X) pins s7 σ H7 (.ref p) [v] (.ref p) [u] (λ_ H8=>Q σ H8) I7 rfl (.cons r7 .nil) ⟨p,ys,v,rfl,rfl,hp,hz,n7⟩
 refine wpAny_bind (liftX ap λ_ s8 q8=>?_)
 obtain ⟨_,H8,I8,_,w8⟩:=q8
 exact wpAny_pure ⟨σ,H8,I8,w8⟩
theorem qD7 {R:Result->Shared->Prop}{M:Program}{w:World}{A:Around}{s:Shared}{env:Env}{it:Value}{cl:Comprehension}(h1:(clausesOf (.ListComp elt gens scope cpos))[d]? = some cl)(h2:cl.is_async=0)
  (h0:codeAny (model M w) A (.compLoop (.ListComp elt gens scope cpos) d it acc env) R s)
  (h:wpAny (model M w) A (pyIter it) (λit' s'=>codeAny (model M w) A (.compLoop (.ListComp elt gens scope cpos) d it' acc env) R s') (notedBy (model M w) A env λx s'=>R (.error x) s') s) :
  codeAny (model M w) A (.compStart (.ListComp elt gens scope cpos) d it acc env) R s:=by
 refine codeAny_of_tree ?_
 show wpAny _ _ ((compStart (.ListComp elt gens scope cpos) d it acc env).onRaise (λx=>do noteFrame x env; standAt theWindowsPlace)) _ _ s
 refine wpAny_notedAt ?_
 unfold compStart
 rw [h1]
 simp only [Option.elim,h2,bne_self_eq_false,Bool.false_eq_true,if_false]
 show wpAny _ _ (ask >>= _) _ _ s
 refine wpAny_bind (wpAny_askSetting (wpAny_ite ?_))
 split
 ·first
   | exact wpAny_bind (wpAny_pure (wpAny_pure (And.intro rfl h0)))
   | exact wpAny_pure (And.intro rfl h0)
 ·first
   | exact wpAny_bind (wpAny_rule (wpAny_bind (wpAny_standAt (wpAny_bind (wpAny_mono h (λit' s' h'=>wpAny_pure (And.intro rfl h')) λ_ _ x=>x)))))
   | (refine wpAny_bind (wpAny_rule ?_); show wpAny _ _ (standAt cl.iter.pos >>= _) _ _ s; exact wpAny_bind (wpAny_standAt (wpAny_bind (wpAny_mono h (λit' s' h'=>wpAny_pure (And.intro rfl h')) λ_ _ x=>x))))
theorem qv1 {wi:TI}{tbp:Addr->TBd}{p:Addr}{cl:Comprehension}(hc:X.calm=true)(hx:∀ v s,X.xe v s->False)(hi:PI X cl.target cl.iter wi)(hg:PG X cl.target g)(ht:qM2 X cl.ifs tt)(hb:PB X (qM0 elt gens scope cpos d (.ref p) X.env) (tbp p))
  (h1:(clausesOf (.ListComp elt gens scope cpos))[d]? = some cl:=by rfl) (h2:cl.is_async=0:=by rfl)
  (h3:∀ g,gens[d + 1]? = some g->g.is_async=0:=by intro g h; first | (cases h; rfl) | cases h)
  (hs:∀ x,foldedSetIterable cl.iter X.env x=pure x:=by intro _; rfl):PB X (qG3 cl (.ListComp elt gens scope cpos) d (.ref p) X.env) (tNest wi g tt tbp p):=by
 intro pins s σ H Q I q
 have liftX:∀{α:Type} {t:Sem α} {Q1 Q2:α->Shared->Prop} {E2:Value->Shared->Prop} {s':Shared},wpAny (model X.prog X.w) X.A t Q1 X.xe s'->(∀ a s'',Q1 a s''->Q2 a s'')->wpAny (model X.prog X.w) X.A t Q2 E2 s' :=
  λh k=>wpAny_mono h k λv s z=>(hx v s z).elim
 unfold qG3
 refine wpAny_bind (liftX (hi pins s σ H _ I q) λv s1 h1'=>?_)
 refine wpAny_bind (wpAny_standAt (wpAny_bind (wpAny_of_eq (hs v) (wpAny_bind (wpAny_holding (liftX h1' λitv s2 h2'=>?_))))))
 obtain ⟨it,fp,tn,J,H2,ei,I2,T,st2,f2,blk⟩:=h2'
 subst ei
 have loop:codeAny (model X.prog X.w) X.A (.compLoop (.ListComp elt gens scope cpos) d (.ref it) (.ref p) X.env) (λr s'=>match r with | .ok f=>(∃ σ' H',Inv X pins σ' H' s'/\Q σ' H') | .error ev=>cameBackBy (model X.prog X.w) X.A X.env (λ_ _=>False) ev s') s2 :=
  loopD (pins:=pins) hc hx (λit=>qE5 h1 h2 h3 it _ _) hg ht hb T f2 I2 st2 blk λσ' H' s' I' q'=>⟨σ',H',I',q'⟩
 have fin:=wpAny_runOwn (M:=model X.prog X.w) (A:=X.A) (env:=X.env) (E:=λ_ _=>False) (h:=none) (Q:=λ_ s'=>∃ σ' H',Inv X pins σ' H' s'/\Q σ' H') (qD7 h1 h2 loop (T.self _ 0 _ _ _ st2 loop))
 exact wpAny_bind (wpAny_mono fin (λ_ _ z=>wpAny_pure z) λ_ _ z=>z)
end
section
variable {X:Cx}{elt iter tg:Expr}{ifs:List Expr}{qf8:List Comprehension}{scope:Scope}{pos:Pos}{N':List Str}{fm:List (Option Nat)}{wi:TI}{g:TG}{tt:TT}{tb:Addr->TBd}
theorem qD5 {RR:Value->Addr->Result->Shared->Prop}{pins:List (Addr×Obj)}{σ:St}{H:Hp}{s:Shared}{it:Addr}{fp:List Addr}{tn:Nat->Heap->Prop}{J:It}{Q:Addr->Hp->Prop}{E:Value->Shared->Prop}
  (hc:X.calm=true) (S:CompSc X scope N' fm) (hg:∀ s H C fp,PG (cxC X scope N' s H C fp) tg g) (ht:∀ s H C fp,qM2 (cxC X scope N' s H C fp) ifs tt)
  (hb:∀ s H C fp p,PB (cxC X scope N' s H C fp) (qM0 elt (⟨tg,iter,ifs,0⟩ :: qf8) scope pos 0 (.ref p) (cxC X scope N' s H C fp).env) (tb p))
  (hq:∀ it acc env,compTurn (.ListComp elt (⟨tg,iter,ifs,0⟩ :: qf8) scope pos) 0 it acc env=qx8 iter.pos tg ifs (qM0 elt (⟨tg,iter,ifs,0⟩ :: qf8) scope pos 0 acc env) (.ListComp elt (⟨tg,iter,ifs,0⟩ :: qf8) scope pos) 0 it acc env)
  (T:Turn X.prog X.w X.K tg J fp it tn) (I:Inv X pins σ H s) (st:tn 0 s.heap) (hf:∀ b∈fp,qj5 X pins H b)
  (blk:∀ p,H p=none->qB7 J g tt (tb p) (seeσ fm σ) (upd H p (.lst [])) λ_=>Q p)
  (hR:∀ p C H' s' (m:Str->Option Value),s'.heap.Ns C m->(∀ h',Heap.SameBut C s'.heap h'->Inv X pins σ H' { s' with heap:=h' })->qj5 X pins H' C->Q p H'->Inv X pins σ H' s'->RR (.ref p) C (.ok .next) s') :
  wpAny (model X.prog X.w) X.A (newList []) (λacc s₃=>wpAny (model X.prog X.w) X.A (newFunctionEnv scope X.env.globals (qB4 scope X.env) [] X.env.qual none .none (some X.env)) (λcenv s₄ =>
   codeAny (model X.prog X.w) X.A (.compStart (.ListComp elt (⟨tg,iter,ifs,0⟩ :: qf8) scope pos) 0 (.ref it) acc { cenv with scope:=relabel scope X.env }) (RR acc cenv.locals) s₄) E s₃) E s:=by
 have I1:Inv X pins σ (upd H s.heap.objs.size (.lst [])) { s with heap:=s.heap.push { cls:=.type "list",data:=.seq ([]:List Value).toArray } }:=I.lnew (t':=s.toks) .nil (Nat.zero_le _)
 have hb':=blk _ I.fresh
 refine wpAny_newObj_type (wpAny_newFunctionEnv S.cell (by intro y hy; simp at hy) (λh1 hn1 hs1=>?_) S.kind)
 dsimp only at hn1 hs1 ⊢
 generalize hq2:s.heap.push { cls:=.type "list",data:=.seq ([]:List Value).toArray }=h2 at hn1 hs1 I1 ⊢
 have sz:h2.objs.size=s.heap.objs.size + 1:=by rw [<- hq2,Heap.size_push]
 have old:∀ b o,h2.get? b=some o->h1.get? b=some o:=λb o e=>hs1.extBut b o (Nat.ne_of_lt (Heap.lt_size e)) (Heap.get?_push_of_some _ e)
 have old0:∀ b o,s.heap.get? b=some o->h2.get? b=some o:=λb o e=>hq2 ▸ Heap.get?_push_of_some _ e
 have lt0:∀ b∈fp,b < s.heap.objs.size:=λb hb=>by
  obtain ⟨o,e,_⟩:=T.obj _ _ st b hb
  exact Heap.lt_size e
 have hf1:∀ b∈fp,qj5 X pins (upd H s.heap.objs.size (.lst [])) b:=λb hb=>by
  obtain ⟨f0,f⟩:=hf b hb
  exact ⟨by rw [q07 (Nat.ne_of_lt (lt0 b hb))]; exact f0,f⟩
 have lt2:∀ b∈fp,b < h2.objs.size:=λb hb=>by rw [sz]; exact Nat.lt_succ_of_lt (lt0 b hb)
 have J0:=qt0 (s:={ s with heap:=h2 }) (h':=h1) (tk:=s.toks) (fp:=fp) S I1 hf1 lt2 hn1 old
 have st1:tn 0 h1:=T.keep _ _ _ st λb _ o e=>old b o (old0 b o e)
 have fpok:∀ b∈fp,qj5 (cxC X scope N' { s with heap:=h2 } (upd H s.heap.objs.size (.lst [])) h2.objs.size fp) [] (upd H s.heap.objs.size (.lst [])) b:=λb hb=>by
  refine ⟨(hf1 b hb).1,Nat.ne_of_lt (lt2 b hb),λz=>?_,.inl hb,λx c e z=>?_,λp hp=>absurd (show p∈([]:List (Addr×Obj)) from hp) (by simp)⟩
  ·rcases List.mem_cons.mp (I.stkSub b z) with q | q
   ·exact (hf b hb).2.1 q
   ·exact (hf b hb).2.2.1 q
  ·exact (hf b hb).2.2.2.2.1 x c (S.look I e).1 z
 have loop:=loopD (X:=cxC X scope N' { s with heap:=h2 } (upd H s.heap.objs.size (.lst [])) h2.objs.size fp) (R:=RR (.ref s.heap.objs.size) h2.objs.size) (pins:=[]) hc (λ_ _ z=>z) (λit=>hq it _ _) (hg _ _ _ _) (ht _ _ _ _) (hb _ _ _ _ _) T fpok J0 st1 hb' λσ' H' s' Jv qv=>by
  obtain ⟨m,hm,_⟩:=Jv.loc
  exact hR _ _ H' s' m hm (λh' sb=>qj2 (s:={ s with heap:=h2 }) I1 hf1 Jv rfl Jv.bare sb) (I1.fpOk (Nat.le_refl _) Jv.free) qv (qj2 (s:={ s with heap:=h2 }) I1 hf1 Jv rfl Jv.bare (Heap.SameBut.refl ..))
 exact codeAny_compStart_list loop (T.self _ 0 _ _ _ st1 loop)
theorem qn0 (hc:X.calm=true)(S:CompSc X scope N' fm)(hi:PI X tg iter wi)(hg:∀ s H C fp,PG (cxC X scope N' s H C fp) tg g)(ht:∀ s H C fp,qM2 (cxC X scope N' s H C fp) ifs tt)
  (hb:∀ s H C fp p,PB (cxC X scope N' s H C fp) (qM0 elt (⟨tg,iter,ifs,0⟩ :: qf8) scope pos 0 (.ref p) (cxC X scope N' s H C fp).env) (tb p))
  (h3:∀ g,qf8[0]? = some g->g.is_async=0:=by intro g h; first | (cases h; rfl) | cases h)
  (hs:∀ x,foldedSetIterable iter X.env x=pure x:=by intro _; rfl) :
  PE X (.ListComp elt (⟨tg,iter,ifs,0⟩ :: qf8) scope pos) (tCompN fm wi g tt tb):=by
 intro pins s σ H Q I h
 rw [eval_ListComp]
 refine wpAny_comprehension_free (use:=none) rfl hs (qd6 (S.cells I)) S.kind S.names (thn (hi pins s σ H _ I h) λv s1 h1=>thn h1 λitv s2 h2=>?_)
 obtain ⟨it,fp,tn,J,H2,e,I2,T,st2,f2,blk⟩:=h2
 subst e
 refine qD5 (RR:=λacc C=>compPost (model X.prog X.w) X.A X.xe none (EP X pins σ Q) acc C) (Q:=λp H'=>Q (.ref p) H') hc S hg ht hb (λit acc env=>qE5 (cl:=⟨tg,iter,ifs,0⟩) (gens:=⟨tg,iter,ifs,0⟩ :: qf8) (d:=0) rfl rfl (λg h=>h3 g (by simpa using h)) it acc env) T I2 st2 f2 blk ?_
 intro p C H' s' m hm back _ q _
 exact ⟨m,hm,λh' sb=>⟨.ref p,H',back h' sb,rfl,q⟩⟩
end
section
variable {K:PySem.W.Frag}{g:TG}{tt:TT}{tb:TBd}{σ0:St}{H0:Hp}{Q:St->Hp->Prop}{x:Str}
def qX3 (g:TG)(tt:TT)(tb:TBd)(N:St->Hp->Prop)(x:V)(σ:St)(H:Hp):Prop:=g x σ H λσ2 H2=>tt σ2 H2 λb H3=>if b=true then tb σ2 H3 N else N σ2 H3
theorem qS5 (Pv:Nat->St->Hp->Prop)(h0:Pv 0 σ0 H0)(hs:∀ i σ H,i < x.length->Pv i σ H->qX3 g tt tb (Pv (i + 1)) (sg x i) σ H)(hd:∀ σ H,Pv x.length σ H->Q σ H):qB7 (Its x) g tt tb σ0 H0 Q:=by
 refine ⟨λi m σ H=>m=x.length - i/\i<=x.length/\Pv i σ H,⟨x.length,by simp,Nat.zero_le _,h0⟩,?_⟩
 rintro i m σ H ⟨rfl,hi,r⟩
 by_cases hlt:i < x.length
 ·refine .inr ⟨hlt,Pv (i + 1),λσ' H' r=>⟨x.length - (i + 1),by omega,rfl,hlt,r⟩,λv H' y=>?_⟩
  obtain ⟨rfl,rfl⟩:=y
  exact hs i σ _ hlt r
 ·have e:i=x.length:=by omega
  subst e
  exact .inl ⟨Nat.le_refl _,hd σ H r⟩
theorem qC6 {a:Addr}{xs:List V}(Pv:Nat->St->Hp->Prop)(h0:Pv 0 σ0 H0)(hl:∀ i σ H,i<=xs.length->Pv i σ H->SqL K H a xs)(hs:∀ i x σ H,xs[i]? = some x->Pv i σ H->qX3 g tt tb (Pv (i + 1)) x σ H)(hd:∀ σ H,Pv xs.length σ H->Q σ H) :
  qB7 (Itl K a) g tt tb σ0 H0 Q:=by
 refine ⟨λi m σ H=>m=xs.length - i/\i<=xs.length/\Pv i σ H,⟨xs.length,by simp,Nat.zero_le _,h0⟩,?_⟩
 rintro i m σ H ⟨rfl,hi,r⟩
 have q:=hl i σ H hi r
 by_cases hlt:i < xs.length
 ·refine .inr ⟨⟨xs,xs[i],q,by simp [hlt]⟩,Pv (i + 1),λσ' H' p'=>⟨xs.length - (i + 1),by omega,rfl,hlt,p'⟩,λx H' y=>?_⟩
  obtain ⟨e,y⟩:=y
  subst e
  exact hs i x σ _ (y xs q) r
 ·have e:i=xs.length:=by omega
  subst e
  exact .inl ⟨⟨xs,q,Nat.le_refl _⟩,hd σ H r⟩
end
theorem qs0 (ns:List Int):∀ n,n<=ns.length->preSum (λi=>ns.getD i 0) n=(ns.take n).sum
 | 0,_=>by simp [preSum]
 | n + 1,h=>by
  have ih:=qs0 ns n (by omega)
  show preSum (λi=>ns.getD i 0) n + ns.getD n 0=_
  rw [ih,List.take_add_one,List.sum_append,List.getElem?_eq_getElem (by omega)]
  simp [List.getD_eq_getElem?_getD,List.getElem?_eq_getElem (show n < ns.length by omega)]
theorem kv_at {κ:Type}{k:κ}{u:Value}:∀{kvs:List (κ×V)}{vs:List (κ×Value)},KV kvs vs->∀(ns:List Int) (i:Nat),kvs.map (·.2)=ns.map V.int->vs[i]? = some (k,u)->∃ t,u=.int (ns.getD i 0) t:=by
 intro kvs vs r
 unfold KV at r
 induction r with
 | nil=>intro _ _ _ h; simp at h
 | @cons p q ps qs h t ih =>
  intro ns i e hi
  cases ns with
  | nil=>simp at e
  | cons n ns =>
   rw [List.map_cons,List.map_cons] at e
   injection e with e1 e2
   cases i with
   | zero =>
    simp at hi
    subst hi
    have r2:=h.2
    rw [e1] at r2
    obtain ⟨t,z⟩:=r2
    exact ⟨t,z⟩
   | succ i =>
    have hi':qs[i]? = some (k,u):=by simpa using hi
    exact ih ns i e2 hi'
section
variable {X:Cx}{o:Expr}{td:TE}{p apos cpos pos:Pos}
def tSumV (td:TE):TE:=λσ H Q=>td σ H λx H1=>∃(a:Addr) (kvs:List (Key×V)) (ns:List Int),x=.ref a/\H1 a=some (.dK kvs)/\kvs.map (·.2)=ns.map V.int/\Q (.int ns.sum) H1
theorem qJ6 (hc:X.calm=true) (hg:Gl X "sum") (hm:X.mg "sum" = none) (ho:PE X o td) (hbase:attributeBase o "values" X.env (eval o X.env)=eval o X.env:=by rfl) (hline:(apos.endLine == cpos.line)=true:=by rfl)
  (he:starEach [.Call (.Attribute o "values" apos) [] [] cpos] X.env=[(false,eval (.Call (.Attribute o "values" apos) [] [] cpos) X.env)]:=by rfl) :
  PE X (.Call (.Name "sum" p) [.Call (.Attribute o "values" apos) [] [] cpos] [] pos) (tSumV td):=by
 intro pins s σ H Q I h
 refine wpAny_Call_Name_kw (qi5 I hg hm boot_sum ?_ (by decide) (by decide))
 refine PyProof.Rows.callWith_builtin1 ?_ he rfl
 rw [he]
 show wpAny _ _ (spliced ((false,eval (.Call (.Attribute o "values" apos) [] [] cpos) X.env) :: [])) _ _ s
 refine Calls.spliced_cons (wpAny_Call_method0_late hbase hline (thn (ho pins s σ H _ I h) λv s1 ⟨x,H1,I1,r1,a,kvs,ns,ex,ea,ek,q1⟩=>?_))
 subst ex
 obtain rfl:v=Value.ref a:=r1
 obtain ⟨z,hd,vs,rel,dd⟩:=z52 I1.hok ea
 have nd:∀ b,Value.ref a=.ref b->∃ ob,s1.heap.get? b=some ob/\ob.dict=none:=λb q=>by
  cases q
  obtain ⟨ob,_,_,h1,h2,_⟩:=dd
  exact ⟨ob,h1,h2.2.1⟩
 refine ⟨"dict", "dict.values",PySem.F.plainAttrs_dict,PySem.F.slot_dict_values,PySem.F.type_dict_values,dd.typeIs,nd,Calls.callWith_builtin rfl (PySem.evalArgs_none ?_)⟩
 refine call_meetsIn PySem.F.slot_dict_values dd.typeIs PySem.F.entry_dict_values (PySem.F.args_dict_values_1 _) (meets_dict_values (q40 X.prog X.w) a hd) ⟨⟨vs,dd⟩,?_⟩
 refine Calls.spliced_nil ?_
 obtain ⟨ep,da⟩:=dd.dictAt
 have hv:(s1.heap.push { cls:=.type "dict_values",data:=.fields #[.ref a] }).IsValuesView s1.heap.objs.size a:=⟨_,Heap.get?_push_size _ rfl,rfl,rfl⟩
 have KS:=PySem.W.kdl_values (prog:=X.prog) (w:=X.w) (knd:=q40 X.prog X.w) (r:=s1.heap.objs.size) (d:=a) (kvs:=vs) (ep:=ep)
 refine call_sum_walkAnyS ?_
 obtain ⟨oI,St,hit,W,st⟩:=KS.iter X.A.in1 { s1 with heap:=s1.heap.push { cls:=.type "dict_values",data:=.fields #[.ref a] } } (I1.ok.hd hc) ⟨hv,da.push _⟩
 refine hit _ _ ⟨_,_,_,_,vs.length,_,_,λi=>ns.getD i 0,rfl,W.toS,st,λb hb=>?_,λi u hu=>?_,λs' t' hmv=>?_⟩
 ·show b < ((s1.heap.push { cls:=.type "dict_values",data:=.fields #[.ref a] }).push oI).objs.size
  rw [Heap.size_push,Heap.size_push]
  rcases List.mem_cons.mp hb with e | hb
  ·rw [e,Heap.size_push]; exact Nat.lt_succ_self _
  ·rw [List.mem_singleton.mp hb]; exact Nat.lt_succ_of_lt (Nat.lt_succ_of_lt da.lt_size)
 ·obtain ⟨k,hk⟩:=hu
  exact kv_at rel ns i ek hk
 ·have e:preSum (λi=>ns.getD i 0) vs.length=ns.sum:=by
   have l:vs.length=ns.length:=by
    rw [<- rel.length]
    have:=congrArg List.length ek
    rwa [List.length_map,List.length_map] at this
   rw [l,qs0 ns _ (Nat.le_refl _),List.take_length]
  have kp:∀ b o,s1.heap.get? b=some o->s'.heap.get? b=some o:=λb o e =>
   hmv.heap b o (λhI=>by
    rw [List.mem_singleton] at hI
    have lt:=Heap.lt_size e
    rw [hI,Heap.size_push] at lt
    exact Nat.lt_irrefl _ (Nat.lt_trans lt (Nat.lt_succ_self _))) (Heap.get?_push_of_some _ (Heap.get?_push_of_some _ e))
  rw [Moved.eq_with hmv]
  refine ⟨.int ns.sum,H1,I1.kept (t':=s'.toks) kp,⟨t',by rw [e]⟩,q1⟩
end
end L2
namespace L2
open PySem PySem.W
def ch (x:Str)(i:Nat):Nat:=x.cps.getD i 0
structure Row (n:Nat) (x:Str):Prop where
 len:x.length=n
 bin:∀ i,i < n->ch x i=121∨ch x i=110
theorem qW2 {n:Nat}{x:Str}(h:Row n x){i:Nat}(hi:i < n):atI x.cps.toList (i:Int)=some (ch x i):=by
 refine q43 ?_
 have hs:i < x.cps.size:=Nat.lt_of_lt_of_eq hi h.len.symm
 show x.cps.toList[i]? = some (x.cps.getD i 0)
 simp [Array.getD_eq_getD_getElem?,hs]
theorem tx_row {n:Nat}{c:Nat->Nat}(h:∀ i,c i=121∨c i=110):Row n (tx n c):=by
 have e:∀ i,i < n->ch (tx n c) i=c i:=λi hi=>by
  have:=tx_at (c:=c) hi
  unfold ch tx
  simp [Array.getD_eq_getD_getElem?,hi]
 exact ⟨ql4 n c,λi hi=>by rw [e i hi]; exact h i⟩
def fK (p:Str×Int):Key×V:=(.inr p.1,.int p.2)
theorem inr_eq {a b:Str}:((Sum.inr a:Key)=.inr b)↔a=b:=⟨λh=>by injection h,λh=>by rw [h]⟩
theorem z99 (x:Str):∀ c:List (Str×Int),((c.map fK).any λkv=>decide (kv.1=(Sum.inr x:Key)))=kprHas c x
 | []=>rfl
 | p :: r=>by
  rw [List.map_cons,List.any_cons,z99 x r,kpr_has_cons]
  congr 1
  exact decide_eq_decide.mpr inr_eq
theorem qM7 (x:Str):∀ c:List (Str×Int),q67 (c.map fK) (.inr x)=if kprHas c x=true then some (.int (kprLook c x 0)) else none
 | []=>rfl
 | p :: r=>by
  rw [List.map_cons]
  by_cases e:p.1=x
  ·rw [q60 (p:=fK p) (inr_eq.mpr e),kpr_has_cons,decide_eq_true e,Bool.true_or,if_pos rfl,kpr_look_cons,if_pos e]
   rfl
  ·rw [q61 (p:=fK p) (λz=>e (inr_eq.mp z)),qM7 x r,kpr_has_cons,decide_eq_false e,Bool.false_or,kpr_look_cons,if_neg e]
theorem qP5 (c:List (Str×Int))(x:Str)(v:Int):qj4 (c.map fK) (.inr x) (.int v)=(kprPut c x v).map fK:=by
 unfold qj4
 rw [z99]
 by_cases h:kprHas c x=true
 ·rw [if_pos h,kpr_put_old h,List.map_map,List.map_map]
  refine List.map_congr_left λp _=>?_
  show (if (Sum.inr p.1:Key)=.inr x then ((Sum.inr p.1:Key),V.int v) else fK p)=fK (kprSet x v p)
  by_cases e:p.1=x
  ·rw [if_pos (inr_eq.mpr e),kprSet_yes e]; rfl
  ·rw [if_neg (λz=>e (inr_eq.mp z)),kprSet_no e]
 ·rw [if_neg h,kpr_put_new (by simpa using h),List.map_append]
  rfl
structure Kept (rs:List Str) (c:List (Str×Int)):Prop where
 nd:(c.map (·.1)).Nodup
 look:∀ x,kprLook c x 0=(rs.count x:Nat)
 pos:∀ p∈c,0 < p.2
 sum:kprSum c=(rs.length:Nat)
theorem Kept.nil:Kept [] []:=⟨List.nodup_nil,λ_=>rfl,λ_ h=>(by cases h),rfl⟩
theorem put_pos {c:List (Str×Int)}{x:Str}{v:Int}(h:∀ p∈c,0 < p.2)(hv:0 < v):∀ p∈kprPut c x v,0 < p.2:=by
 intro p hp
 cases z:kprHas c x with
 | true =>
  rw [kpr_put_old z] at hp
  obtain ⟨q,hq,rfl⟩:=List.mem_map.mp hp
  by_cases e:q.1=x
  ·rw [kprSet_yes e]; exact hv
  ·rw [kprSet_no e]; exact h q hq
 | false =>
  rw [kpr_put_new z] at hp
  rcases List.mem_append.mp hp with hp | hp
  ·exact h p hp
  ·rw [List.mem_singleton.mp hp]; exact hv
theorem Kept.add {rs:List Str}{c:List (Str×Int)}(h:Kept rs c)(x:Str):Kept (x :: rs) (kprPut c x (kprLook c x 0 + 1)):=by
 have l:=h.look x
 refine ⟨kpr_nodup h.nd _ _,λy=>?_,put_pos h.pos (by omega),?_⟩
 ·rw [kpr_look_put,List.count_cons]
  by_cases e:y=x
  ·subst e
   rw [if_pos rfl,l]
   simp
  ·rw [if_neg e,h.look y]
   have:(x == y)=false:=by simpa using λz=>e z.symm
   simp [this]
 ·rw [kpr_sum_put h.nd,h.sum,List.length_cons]
  omega
theorem Kept.perm {rs rs':List Str}{c:List (Str×Int)}(h:Kept rs c)(p:rs.Perm rs'):Kept rs' c :=
 ⟨h.nd,λx=>by rw [h.look x,p.count_eq],h.pos,by rw [h.sum,p.length_eq]⟩
theorem fK_vals (c:List (Str×Int)):(c.map fK).map (·.2)=(c.map (·.2)).map V.int:=by rw [List.map_map,List.map_map]; rfl
def q29 (rs:List Str)(q a r b:Nat):Nat:=rs.countP λx=>decide (ch x q=a/\ch x r=b)
def bk (q a r b:Nat):List Key:=[.inl q,.inr ⟨#[a]⟩,.inl r,.inr ⟨#[b]⟩]
theorem bk_eq {q a r b q' a' r' b':Nat}:bk q a r b=bk q' a' r' b'↔q=q'/\a=a'/\r=r'/\b=b':=by
 constructor
 ·intro h
  injection h with h1 h
  injection h with h2 h
  injection h with h3 h
  injection h with h4 h
  injection h1 with h1
  injection h2 with h2
  injection h3 with h3
  injection h4 with h4
  have e2:a=a':=by injection h2 with h2; simpa using h2
  have e4:b=b':=by injection h4 with h4; simpa using h4
  exact ⟨by omega,e2,by omega,e4⟩
 ·rintro ⟨rfl,rfl,rfl,rfl⟩
  rfl
def Both (n:Nat)(f:Nat->Nat->Nat->Nat->Int)(bvs:List (List Key×V)):Prop:=∀ q a r b,q < n->r < n->(q67 bvs (bk q a r b)).getD (.int 0)=.int (f q a r b)
theorem Both.nil {n:Nat}:Both n (λ_ _ _ _=>0) []:=λ_ _ _ _ _ _=>rfl
theorem Both.congr {n:Nat}{f g:Nat->Nat->Nat->Nat->Int}{bvs:List (List Key×V)}(h:Both n f bvs)(e:∀ q a r b,q < n->r < n->f q a r b=g q a r b):Both n g bvs:=λq a r b hq hr=>by rw [h q a r b hq hr,e q a r b hq hr]
def tlF (f:Nat->Nat->Nat->Nat->Int)(x:Str)(by':Int)(i j:Nat)(q a r b:Nat):Int:=f q a r b + if (q < i∨(q=i/\r < j))/\ch x q=a/\ch x r=b then by' else 0
theorem Both.step {n:Nat}{f:Nat->Nat->Nat->Nat->Int}{x:Str}{d:Int}{i j:Nat}{bvs:List (List Key×V)}(h:Both n (tlF f x d i j) bvs)(hi:i < n)(hj:j < n) :
  ∃ v:Int,(q67 bvs (bk i (ch x i) j (ch x j))).getD (.int 0)=.int v/\Both n (tlF f x d i (j + 1)) (qj4 bvs (bk i (ch x i) j (ch x j)) (.int (v + d))):=by
 refine ⟨_,h i (ch x i) j (ch x j) hi hj,λq a r b hq hr=>?_⟩
 rw [qE1]
 by_cases e:bk q a r b=bk i (ch x i) j (ch x j)
 ·rw [if_pos e]
  obtain ⟨rfl,rfl,rfl,rfl⟩:=bk_eq.mp e
  show V.int _=_
  congr 1
  unfold tlF
  rw [if_neg (by omega),if_pos ⟨.inr ⟨rfl,by omega⟩,rfl,rfl⟩]
  omega
 ·rw [if_neg e,h q a r b hq hr]
  congr 1
  unfold tlF
  congr 1
  have:((q < i∨q=i/\r < j)/\ch x q=a/\ch x r=b)↔((q < i∨q=i/\r < j + 1)/\ch x q=a/\ch x r=b):=by
   constructor
   ·rintro ⟨z,e1,e2⟩
    exact ⟨by omega,e1,e2⟩
   ·rintro ⟨z,e1,e2⟩
    refine ⟨?_,e1,e2⟩
    rcases z with z | ⟨z1,z2⟩
    ·exact .inl z
    ·by_cases e3:r=j
     ·exfalso
      subst z1 e3
      exact e (bk_eq.mpr ⟨rfl,e1.symm,rfl,e2.symm⟩)
     ·exact .inr ⟨z1,by omega⟩
  by_cases p:(q < i∨q=i/\r < j)/\ch x q=a/\ch x r=b
  ·rw [if_pos p,if_pos (this.mp p)]
  ·rw [if_neg p,if_neg (λz=>p (this.mpr z))]
theorem Both.turn {n:Nat}{f:Nat->Nat->Nat->Nat->Int}{x:Str}{d:Int}{i:Nat}{bvs:List (List Key×V)}(h:Both n (tlF f x d i n) bvs):Both n (tlF f x d (i + 1) 0) bvs :=
 h.congr λq a r b hq hr=>by
  unfold tlF
  congr 1
  by_cases p:(q < i∨q=i/\r < n)/\ch x q=a/\ch x r=b
  ·rw [if_pos p,if_pos ⟨by omega,p.2⟩]
  ·rw [if_neg p,if_neg (λz=>p ⟨by omega,z.2⟩)]
theorem Both.start {n:Nat}{f:Nat->Nat->Nat->Nat->Int}{x:Str}{d:Int}{bvs:List (List Key×V)}(h:Both n f bvs):Both n (tlF f x d 0 0) bvs :=
 h.congr λq a r b hq hr=>by unfold tlF; rw [if_neg (by omega)]; omega
def z97 (rs:List Str)(q a r b:Nat):Int:=(q29 rs q a r b:Nat)
theorem qW0 (x:Str)(rs:List Str)(q a r b:Nat):q29 (x :: rs) q a r b=q29 rs q a r b + if ch x q=a/\ch x r=b then 1 else 0:=by
 unfold q29
 rw [List.countP_cons]
 by_cases h:ch x q=a/\ch x r=b <;> simp [h]
theorem Both.add {n:Nat}{rs:List Str}{x:Str}{bvs:List (List Key×V)}(h:Both n (tlF (z97 rs) x 1 n 0) bvs):Both n (z97 (x :: rs)) bvs :=
 h.congr λq a r b hq hr=>by
  unfold tlF z97
  rw [qW0]
  by_cases p:ch x q=a/\ch x r=b
  ·rw [if_pos ⟨.inl hq,p⟩,if_pos p]; omega
  ·rw [if_neg (λz=>p z.2),if_neg p]; omega
theorem Both.perm {n:Nat}{rs rs':List Str}{bvs:List (List Key×V)}(h:Both n (z97 rs) bvs)(p:rs.Perm rs'):Both n (z97 rs') bvs :=
 h.congr λq a r b _ _=>by unfold z97 q29; rw [p.countP_eq]
end L2
namespace K19
open PySem L2
abbrev q78:Stmt:=top 14
abbrev qc8:Stmt:=top 15
abbrev qg8:Stmt:=top 16
abbrev qo9:Stmt:=top 17
abbrev qo6:Stmt:=top 19
abbrev qg6:Stmt:=top 21
abbrev qh6:Stmt:=top 23
structure Gm (mg:Str->Option Value):Prop where
 enum:mg "enumerate" = none
 sum:mg "sum" = none
 sorted:mg "sorted" = none
 dict:mg "dict" = none
 most:∃ t,mg "MOST_QUESTIONS" = some (.int 12 t)
 signs:∃ t,mg "SIGNS" = some (.str "ny" t)
def qM1 (a:Nat):Prop:=a=121∨a=110
section
variable {P:Program}{w:World}{K:PySem.W.Frag}{mg:Str->Option Value}{base:Heap}
def qY6:Sp:=λvs H Q _=>∃ n:Nat,vs=[.int n]/\1<=n/\n<=12/\Q .non H
theorem qP3:FnScope ["questions"] ["questions"] (q02 q78):=⟨rfl,rfl,rfl,by decide +kernel,rfl,by decide +kernel,by decide +kernel⟩
theorem qp5 {f:Addr}{fd:FuncData}(D:Df K mg "check_count" q78 ["questions"] f fd) (M:Gm mg):FnOk P w K mg base (CXE P w) 1 f fd ["questions"] qY6:=by
 refine D.F.okN qP3 (λvs H Q E h=>?_) (λcdv A outer s H vs Q E hr h=>?_)
 ·obtain ⟨n,rfl,_⟩:=h
  rfl
 ·obtain ⟨n,rfl,n1,n12,q⟩:=h
  obtain ⟨t,mQ⟩:=M.most
  refine ⟨_,q05 (q41 (PW.pt (qh7 (q11 qk4 (pv 0) q06 (q14 _)) (qb2 (q11 qJ8 (pv 0) (qe5 (v:=.int 12) (by rfl) mQ ⟨t,rfl⟩) (q14 _))))) (q05 qm9) q21),?_⟩
  refine ⟨_,rfl,_,_,rfl,rfl,_,rfl,qd4 (λc=>?_) (λ_=>?_)⟩
  ·have c:(n:Int) < 1:=of_decide_eq_true c
   omega
  ·refine ⟨_,rfl,_,_,rfl,rfl,_,rfl,qd4 (λc=>?_) (λ_=>q)⟩
   have c:(12:Int) < n:=of_decide_eq_true c
   omega
def qY5:Sp:=λvs H Q _=>∃ q n:Nat,vs=[.int q,.int n]/\q < n/\Q .non H
abbrev Pcq:List Str:=["question", "questions"]
theorem qP2:FnScope Pcq Pcq (q02 qc8):=⟨rfl,rfl,rfl,by decide +kernel,rfl,by decide +kernel,by decide +kernel⟩
theorem qA0 {f:Addr}{fd:FuncData}(D:Df K mg "check_question" qc8 Pcq f fd):FnOk P w K mg base (CXE P w) 1 f fd Pcq qY5:=by
 refine D.F.okN qP2 (λvs H Q E h=>?_) (λcdv A outer s H vs Q E hr h=>?_)
 ·obtain ⟨q,n,rfl,_⟩:=h
  rfl
 ·obtain ⟨q,n,rfl,hq,k⟩:=h
  refine ⟨_,q05 (q41 (PW.pt (qh7 (q11 qk4 (pv 0) q06 (q14 _)) (qb2 (q11 op_ge (pv 0) (pv 1) (q14 _))))) (q05 qm9) q21),?_⟩
  refine ⟨_,rfl,_,_,rfl,rfl,_,rfl,qd4 (λc=>?_) (λ_=>?_)⟩
  ·have c:(q:Int) < 0:=of_decide_eq_true c
   omega
  ·refine ⟨_,rfl,_,rfl,_,_,rfl,rfl,_,rfl,qd4 (λc=>?_) (λ_=>k)⟩
   have c:(n:Int)<=q:=of_decide_eq_true c
   omega
def spCsign:Sp:=λvs H Q _=>∃ a:Nat,vs=[s1 a]/\qM1 a/\Q .non H
theorem qZ6:FnScope ["sign"] ["sign"] (q02 qg8):=⟨rfl,rfl,rfl,by decide +kernel,rfl,by decide +kernel,by decide +kernel⟩
theorem qF8 {f:Addr}{fd:FuncData}(D:Df K mg "check_sign" qg8 ["sign"] f fd):FnOk P w K mg base (CXE P w) 1 f fd ["sign"] spCsign:=by
 refine D.F.okN qZ6 (λvs H Q E h=>?_) (λcdv A outer s H vs Q E hr h=>?_)
 ·obtain ⟨a,rfl,_⟩:=h
  rfl
 ·obtain ⟨a,rfl,ha,k⟩:=h
  refine ⟨_,q05 (q41 (PW.pt (q72 (q11 qv5 (pv 0) q15 (q14 _)) (q53 (q11 qv5 (pv 0) q15 (q14 _))))) (q05 qm9) q21),?_⟩
  refine ⟨_,rfl,rfl,_,rfl,qd4 (λc=>?_) (λ_=>q30 k)⟩
  refine ⟨_,rfl,rfl,_,rfl,qd4 (λc2=>?_) (λ_=>k)⟩
  have c:(!decide (s1 a=s1 121))=true:=c
  have c2:(!decide (s1 a=s1 110))=true:=c2
  rw [qj1] at c c2
  rcases ha with e | e
  ·rw [e] at c; exact absurd c (by decide)
  ·rw [e] at c2; exact absurd c2 (by decide)
def z75:Sp:=λvs H Q _=>∃ q a r b n:Nat,vs=[.int q,s1 a,.int r,s1 b,.int n]/\q < n/\r < n/\qM1 a/\qM1 b/\Q .non H
abbrev Pca:List Str:=["q", "a", "r", "b", "questions"]
theorem sc_cans:FnScope Pca Pca (q02 qo9):=⟨rfl,rfl,rfl,by decide +kernel,rfl,by decide +kernel,by decide +kernel⟩
theorem qd1 {f fq fs:Addr}{fd gq gs:FuncData}(D:Df K mg "check_answers" qo9 Pca f fd) (Dq:Df K mg "check_question" qc8 Pcq fq gq) (Ds:Df K mg "check_sign" qg8 ["sign"] fs gs):FnOk P w K mg base (CXE P w) 2 f fd Pca z75:=by
 refine D.F.okN sc_cans (λvs H Q E h=>?_) (λcdv A outer s H vs Q E hr h=>?_)
 ·obtain ⟨q,a,r,b,n,rfl,_⟩:=h
  rfl
 ·obtain ⟨q,a,r,b,n,rfl,hq,hr',ha,hb,k⟩:=h
  refine ⟨_,q04 (q26 (q23 Dq (qA0 Dq) hr q19 (q00 (pv 0) (q00 (pv 4) q03))))
   (q04 (q26 (q23 Dq (qA0 Dq) hr q19 (q00 (pv 2) (q00 (pv 4) q03))))
   (q04 (q26 (q23 Ds (qF8 Ds) hr q19 (q00 (pv 1) q03)))
   (q05 (q26 (q23 Ds (qF8 Ds) hr q19 (q00 (pv 3) q03)))))),?_⟩
  exact ⟨_,rfl,_,rfl,q,n,rfl,hq,_,rfl,_,rfl,r,n,rfl,hr',_,rfl,a,rfl,ha,_,rfl,b,rfl,hb,k⟩
def spOnly:Sp:=λvs H Q _=>∃(x g:Str) (n:Nat),vs=[.str x,.str g]/\x.length=n/\(∀ i,i < n->ch x i∈g.cps.toList)/\n<=100/\∀ H',Same H H'->Q (.bl true) H'
abbrev Pon:List Str:=["text", "signs"]
theorem qO9:FnScope Pon Pon (q02 qh6):=⟨rfl,rfl,rfl,by decide +kernel,rfl,by decide +kernel,by decide +kernel⟩
theorem nd_on:(["sign", "signs"]:List Str).Nodup:=by decide +kernel
theorem in_sg {g:Str}{a:Nat}(h:a∈g.cps.toList):(!(Builtin.Str.occurrences g ⟨#[a]⟩ 0 g.length 1).isEmpty)=true:=by
 rw [PySem.StrLaws.found_one]
 exact decide_eq_true h
theorem ny_in {a:Nat}(h:qM1 a):a∈("ny" : Str).cps.toList:=by
 rcases h with rfl | rfl <;> decide +kernel
theorem ok_only {f:Addr}{fd:FuncData}(D:Df K mg "only_of" qh6 Pon f fd) (B:Bt mg):FnOk P w K mg base (CXE P w) 1 f fd Pon spOnly:=by
 refine D.F.okN qO9 (λvs H Q E h=>?_) (λcdv A outer s H vs Q E hr h=>?_)
 ·obtain ⟨x,g,n,rfl,_⟩:=h
  rfl
 ·obtain ⟨x,g,n,rfl,hl,hx,hn,k⟩:=h
  refine ⟨_,q05 (q13 (q12 (q90 rfl) (by rfl) B.all (by rfl) (q00
   (q38 (N':=["sign", "signs"]) (fm:=[none,some 1]) rfl ⟨rfl,by decide +kernel,by decide +kernel,rfl,rfl,rfl⟩
    (qm2 (pv 0)) (λ_ _ _ _=>q09 (i:=0) nd_on rfl (Or.inl rfl)) (λ_ _ _ _=>q35)
    (λ_ _ _ _=>q50 qp4 (pv 0) (pv 1) (by rfl))) q03))),?_⟩
  refine ⟨_,rfl,_,rfl,λp hp=>?_⟩
  refine ql1 (λi σ H2=>∃ u,σ=[u,some (.str g)]/\Same H H2/\H2 p=some (.lst ((List.range i).map λ_=>V.bl true))) ⟨none,rfl,Same.new hp,q01⟩ ?_ ?_
  ·rintro i σ H2 hi ⟨u,rfl,s2,e2⟩
   rw [hl] at hi
   refine q34 ⟨_,rfl,_,rfl,_,_,rfl,rfl,_,e2,q68 _ _ (by omega),_,rfl,Same.grow hp s2,?_⟩
   rw [q01,<- qf4]
   have e:=in_sg (hx i hi)
   show some (HO.lst (_ ++ [V.bl _]))=_
   rw [show (!(Builtin.Str.occurrences g ⟨#[x.cps.getD i 0]⟩ 0 g.length 1).isEmpty)=true from e]
  ·rintro σ H2 ⟨u,rfl,s2,e2⟩
   rw [qS3] at e2
   refine ⟨p,_,rfl,SqL.of e2,?_⟩
   have e:(((List.range x.length).map λ_=>true).all id)=true:=by simp
   rw [e]
   exact k H2 s2
def qN7:Sp:=λvs H Q _=>∃(x:Str) (n:Nat),vs=[.str x,.int n]/\Row n x/\1<=n/\n<=12/\∀ H',Same H H'->Q (.bl true) H'
abbrev Pir:List Str:=["row", "questions"]
theorem qZ4:FnScope Pir Pir (q02 qg6):=⟨rfl,rfl,rfl,by decide +kernel,rfl,by decide +kernel,by decide +kernel⟩
theorem z30 {f fc fo:Addr}{fd gc go:FuncData}(D:Df K mg "is_row" qg6 Pir f fd) (Dc:Df K mg "check_count" q78 ["questions"] fc gc) (Do:Df K mg "only_of" qh6 Pon fo go) (B:Bt mg) (M:Gm mg):FnOk P w K mg base (CXE P w) 2 f fd Pir qN7:=by
 refine D.F.okN qZ4 (λvs H Q E h=>?_) (λcdv A outer s H vs Q E hr h=>?_)
 ·obtain ⟨x,n,rfl,_⟩:=h
  rfl
 ·obtain ⟨x,n,rfl,hx,n1,n12,k⟩:=h
  obtain ⟨t,mS⟩:=M.signs
  refine ⟨_,q04 (q26 (q23 Dc (qp5 Dc M) hr q19 (q00 (pv 1) q03)))
   (q05 (q13 (qp3 (q50 q58 (q12 q83 (by rfl) B.len PySem.boot_len (q00 (pv 0) q03)) (pv 1) (q14 _))
    (qs1 (q23 Do (ok_only Do B) hr q19 (q00 (pv 0) (q00 (qe5 (v:=.str "ny") (by rfl) mS ⟨t,rfl⟩) q03))))))),?_⟩
  refine ⟨_,rfl,n,rfl,n1,n12,_,rfl,_,rfl,?_,_,rfl,rfl,_,rfl,qd4 (λ_=>?_) (λc=>?_)⟩
  ·rw [hx.len]; exact q22 (show n<=100 by omega)
  ·exact ⟨_,rfl,x, "ny",n,rfl,hx.len,λi hi=>ny_in (hx.bin i hi),by omega,k⟩
  ·exact absurd (decide_eq_true (by rw [hx.len])) c
def z72:Sp:=λvs H Q _=>∃(x:Str) (n:Nat),vs=[.str x,.int n]/\Row n x/\1<=n/\n<=12/\∀ H',Same H H'->Q .non H'
theorem sc_crow:FnScope Pir Pir (q02 qo6):=⟨rfl,rfl,rfl,by decide +kernel,rfl,by decide +kernel,by decide +kernel⟩
theorem ok_crow {f fi:Addr}{fd gi:FuncData}(D:Df K mg "check_row" qo6 Pir f fd) (Di:Df K mg "is_row" qg6 Pir fi gi) (Gi:FnOk P w K mg base (CXE P w) 2 fi gi Pir qN7):FnOk P w K mg base (CXE P w) 3 f fd Pir z72:=by
 refine D.F.okN sc_crow (λvs H Q E h=>?_) (λcdv A outer s H vs Q E hr h=>?_)
 ·obtain ⟨x,n,rfl,_⟩:=h
  rfl
 ·obtain ⟨x,n,rfl,hx,n1,n12,k⟩:=h
  refine ⟨_,q05 (q41 (qa7 (q52 (q23 Di Gi hr q19 (q00 (pv 0) (q00 (pv 1) q03))))) (q05 qm9) q21),?_⟩
  exact ⟨_,rfl,_,rfl,x,n,rfl,hx,n1,n12,λH' s'=>⟨_,rfl,q30 (k H' s')⟩⟩
end
end K19
namespace K19
open PySem L2 PySem.W
open PyProof.Rows (envOfC)
abbrev qr8:Stmt:=qa0 (top 50) 0
abbrev qB9:Stmt:=qa0 (top 50) 1
abbrev qy9:Stmt:=qa0 (top 50) 2
abbrev qg1:Stmt:=qa0 (top 50) 3
abbrev qr7:Stmt:=qa0 (top 50) 4
abbrev qc2:Stmt:=qa0 (top 50) 6
structure Tb (K:PySem.W.Frag) (mg:Str->Option Value) (C fi fa ft fy fm fc:Addr) (gi ga gt gy gm gc:FuncData):Prop where
 mC:mg "Table" = some (.ref C)
 cl:Cls K C
 mkC:Mk K C fi
 nQ:NoAttr K C "questions"
 nK:NoAttr K C "kept"
 nB:NoAttr K C "both"
 ma:Meth K C "add" fa
 mt:Meth K C "take" ft
 my:Meth K C "tally" fy
 mm:Meth K C "many" fm
 mc:Meth K C "count" fc
 Fi:Fun K "__init__" "Table.__init__" qr8 fi gi
 Fa:Fun K "add" "Table.add" qB9 fa ga
 Ft:Fun K "take" "Table.take" qy9 ft gt
 Fy:Fun K "tally" "Table.tally" qg1 fy gy
 Fm:Fun K "many" "Table.many" qr7 fm gm
 Fc:Fun K "count" "Table.count" qc2 fc gc
 bi:Binds K gi ["self", "questions"] []
 ba:Binds K ga ["self", "row"] []
 bt:Binds K gt ["self", "row"] []
 by':Binds K gy ["self", "row", "by"] []
 bm:Binds K gm ["self"] []
 bc:Binds K gc ["self", "q", "a", "r", "b"] []
def tfs (n:Nat)(kp bt:Addr):List (Str×V):=[("questions",.int n),("kept",.ref kp),("both",.ref bt)]
structure TabAt (C:Addr) (H:Hp) (t dx kp bt:Addr) (n m:Nat) (rs:List Str):Prop where
 ins:H t=some (.ins C dx (tfs n kp bt))
 ex:∃ c bvs,H kp=some (.dK (c.map fK))/\H bt=some (.dT bvs)/\Kept rs c/\Both n (z97 rs) bvs/\c.length<=m/\bvs.length<=144 * m
def Keep2 (kp bt:Addr)(H H':Hp):Prop:=∀ b o,b≠kp->b≠bt->H b=some o->H' b=some o
def qX4 (bt:Addr)(H H':Hp):Prop:=∀ b o,b≠bt->H b=some o->H' b=some o
section
variable {P:Program}{w:World}{K:PySem.W.Frag}{mg:Str->Option Value}{base:Heap}{C fi fa ft fy fm fc:Addr}{gi ga gt gy gm gc:FuncData}
def spTally (C:Addr):Sp:=λvs H Q _=>∃(t dx kp bt:Addr) (n:Nat) (x:Str) (d:Int) (f:Nat->Nat->Nat->Nat->Int) (bvs:List (List Key×V)),vs=[.ref t,.str x,.int d]/\H t=some (.ins C dx (tfs n kp bt))/\H bt=some (.dT bvs) /\
 Both n f bvs/\bvs.length<=200000/\Row n x/\n<=12/\∀ H' bvs',H' bt=some (.dT bvs')->Both n (tlF f x d n 0) bvs'->bvs'.length<=bvs.length + 144->qX4 bt H H'->Q .non H'
abbrev Nt:List Str:=["self", "row", "by", "q", "a", "r", "b", "pair"]
theorem sc_tally:FnScope Nt ["self", "row", "by"] (q02 qg1):=⟨rfl,rfl,rfl,by decide +kernel,rfl,by decide +kernel,by decide +kernel⟩
theorem z22 (T:Tb K mg C fi fa ft fy fm fc gi ga gt gy gm gc)(M:Gm mg):FnOk P w K mg base (CXE P w) 1 fy gy ["self", "row", "by"] (spTally C):=by
 refine T.Fy.okN sc_tally (λvs H Q E h=>?_) (λcdv A outer s H vs Q E hr h=>?_)
 ·obtain ⟨t,dx,kp,bt,n,x,d,f,bvs,rfl,_⟩:=h
  rfl
 ·obtain ⟨t,dx,kp,bt,n,x,d,f,bvs,rfl,ht,hb,hB,hl,hx,n12,k⟩:=h
  have hu:(A.deeper (envOfC "Table.tally" (q02 qg1) s.heap.objs.size fy cdv)).units + 1 < cLine:=by have:=hr.units; omega
  refine ⟨_,q05 (q36 PassesOwn.never rfl (qu9 (by rfl) M.enum (q00 (pv 1) q03)) (q64 rfl (q17 (q09 (i:=3) sc_tally.nd rfl (Or.inl rfl)) (q17 (q09 (i:=4) sc_tally.nd rfl (Or.inl rfl)) q44)))
   (q05 (q36 PassesOwn.never rfl (qu9 (by rfl) M.enum (q00 (pv 1) q03)) (q64 rfl (q17 (q09 (i:=5) sc_tally.nd rfl (Or.inl rfl)) (q17 (q09 (i:=6) sc_tally.nd rfl (Or.inl rfl)) q44)))
    (q04 (q18 (i:=7) sc_tally.nd rfl (Or.inl rfl) (q54 (q00 (pv 3) (q00 (pv 4) (q00 (pv 5) (q00 (pv 6) q03))))))
    (q05 (qC0 hu (qb3 (pv 0) rfl) (pv 7) (q24 q46 (qv0 hu (qb3 (pv 0) rfl) (pv 7) q06 ⟨rfl,rfl,rfl,rfl⟩) (pv 2)) rfl)))))),?_⟩
  have keep:∀{H2:Hp} {T:Addr} {o:HO},qX4 bt H H2->H2 T=none->qX4 bt H (upd H2 T o):=λkk hT b o hb e=>Same.new hT b o (kk b o hb e)
  have tbt:t≠bt:=λz=>by rw [z,hb] at ht; cases ht
  refine ⟨_,rfl,x,rfl,qH1 (λi σ H2=>∃ v3 v4 v5 v6 v7 bvs2,σ=[some (.ref t),some (.str x),some (.int d),v3,v4,v5,v6,v7]/\H2 bt=some (.dT bvs2)/\Both n (tlF f x d i 0) bvs2/\bvs2.length<=bvs.length + 12 * i/\qX4 bt H H2)
   ⟨none,none,none,none,none,bvs,rfl,hb,hB.start,Nat.le_refl _,λb o _ e=>e⟩ ?_ ?_⟩
  ·rintro i T1 σ H2 hi hT ⟨v3,v4,v5,v6,v7,bvs2,rfl,e2,hB2,l2,k2⟩
   rw [hx.len] at hi
   refine ⟨T1,_,rfl,SqT.of q01,rfl,_,_,rfl,_,_,rfl,rfl,?_⟩
   refine ⟨_,rfl,x,rfl,qH1 (λj σ H3=>∃ v5 v6 v7 bvs3,σ=[some (.ref t),some (.str x),some (.int d),some (.int i),some (sg x i),v5,v6,v7]/\H3 bt=some (.dT bvs3)/\Both n (tlF f x d i j) bvs3/\bvs3.length<=bvs.length + 12 * i + j/\qX4 bt H H3)
    ⟨_,_,_,bvs2,rfl,Same.new hT _ _ e2,hB2,l2,keep k2 hT⟩ ?_ ?_⟩
   ·rintro j T2 σ H3 hj hT2 ⟨u5,u6,u7,bvs3,rfl,e3,hB3,l3,k3⟩
    rw [hx.len] at hj
    refine ⟨T2,_,rfl,SqT.of q01,rfl,_,_,rfl,_,_,rfl,rfl,?_⟩
    refine ⟨_,rfl,_,rfl,_,rfl,_,rfl,q22 (show 4<=100 by decide),λT3 hT3=>?_⟩
    obtain ⟨v,ev,hB4⟩:=hB3.step hi hj
    have k4:=keep (o:=.tup [.int i,sg x i,.int j,sg x j]) (keep (o:=.tup [.int j,sg x j]) k3 hT2) hT3
    have e4:=Same.new (o:=.tup [.int i,sg x i,.int j,sg x j]) hT3 _ _ (Same.new (o:=.tup [.int j,sg x j]) hT2 _ _ e3)
    have t4:=k4 t _ tbt ht
    have eT:upd (upd H3 T2 (.tup [.int j,sg x j])) T3 (.tup [.int i,sg x i,.int j,sg x j]) T3=some (.tup ((bk i (ch x i) j (ch x j)).map kV)):=q01
    refine ⟨_,rfl,t,C,dx,_,_,rfl,t4,T.cl,T.nB,rfl,bt,rfl,.inr ⟨_,.inl e4⟩,_,rfl,_,DGet.t e4 eT,_,rfl,_,_,ev,rfl,?_⟩
    refine ⟨_,rfl,t,C,dx,_,_,rfl,t4,T.cl,T.nB,rfl,_,rfl,bt,_,rfl,DPut.t e4 eT ?_,?_⟩
    ·rw [sizeLine_eq]; omega
    have lp:=q99 bvs3 (bk i (ch x i) j (ch x j)) (.int (v + d))
    exact ⟨_,_,_,_,rfl,q01,hB4,Nat.le_trans lp (by omega),λb o hb' e=>by rw [q07 hb']; exact k4 b o hb' e⟩
   ·rintro σ H3 ⟨u5,u6,u7,bvs3,rfl,e3,hB3,l3,k3⟩
    rw [hx.len] at hB3 l3
    exact ⟨_,_,_,_,_,bvs3,rfl,e3,hB3.turn,by omega,k3⟩
  ·rintro σ H2 ⟨v3,v4,v5,v6,v7,bvs2,rfl,e2,hB2,l2,k2⟩
   rw [hx.len] at hB2 l2
   exact k H2 bvs2 e2 hB2 (by omega) k2
def spTinit (C:Addr):Sp:=λvs H Q _=>∃(t dx:Addr) (n:Nat),vs=[.ref t,.int n]/\H t=some (.ins C dx [])/\1<=n/\n<=12 /\
 ∀ H' kp bt,TabAt C H' t dx kp bt n 0 []->H kp=none->H bt=none->(∀ b o,b≠t->H b=some o->H' b=some o)->Q .non H'
theorem sc_init:FnScope ["self", "questions"] ["self", "questions"] (q02 qr8):=⟨rfl,rfl,rfl,by decide +kernel,rfl,by decide +kernel,by decide +kernel⟩
theorem z02 (n:Nat)(kp bt:Addr):qm1 "both" (.ref bt) (qm1 "kept" (.ref kp) (qm1 "questions" (.int n) []))=tfs n kp bt:=rfl
theorem z21 {fn:Addr}{gn:FuncData}(T:Tb K mg C fi fa ft fy fm fc gi ga gt gy gm gc) (Dc:Df K mg "check_count" q78 ["questions"] fn gn) (M:Gm mg):FnOk P w K mg base (CXE P w) 2 fi gi ["self", "questions"] (spTinit C):=by
 refine T.Fi.okN sc_init (λvs H Q E h=>?_) (λcdv A outer s H vs Q E hr h=>?_)
 ·obtain ⟨t,dx,n,rfl,_⟩:=h
  rfl
 ·obtain ⟨t,dx,n,rfl,ht,n1,n12,k⟩:=h
  refine ⟨_,q04 (q26 (q23 Dc (qp5 Dc M) hr q19 (q00 (pv 1) q03)))
   (q04 (qP7 (pv 0) (pv 1) rfl) (q04 (qP7 (pv 0) qF7 rfl) (q05 (qP7 (pv 0) qF6 rfl)))),?_⟩
  refine ⟨_,rfl,n,rfl,n1,n12,_,rfl,_,rfl,t,C,dx,_,rfl,ht,T.cl,T.nQ,(by decide),λkp hkp=>?_⟩
  have hk:H kp=none:=q39 hkp
  have kt:t≠kp:=λz=>by rw [<- z,ht] at hk; cases hk
  have e1:upd (upd H t (.ins C dx (qm1 "questions" (.int n) []))) kp (.dK []) t=some (.ins C dx (qm1 "questions" (.int n) [])):=by rw [q07 kt]; exact q01
  refine ⟨_,rfl,t,C,dx,_,rfl,e1,T.cl,T.nK,(show 1 < 1000 by decide),λbt hbt=>?_⟩
  have hb1:=q39 hbt
  have hb:H bt=none:=q39 (q39 hb1)
  have bt':t≠bt:=λz=>by rw [<- z,ht] at hb; cases hb
  have kb:kp≠bt:=λz=>by rw [<- z,q01] at hb1; cases hb1
  have e2:upd (upd (upd (upd H t (.ins C dx (qm1 "questions" (.int n) []))) kp (.dK [])) t (.ins C dx (qm1 "kept" (.ref kp) (qm1 "questions" (.int n) [])))) bt (.dT []) t=some (.ins C dx (qm1 "kept" (.ref kp) (qm1 "questions" (.int n) []))):=by rw [q07 bt']; exact q01
  refine ⟨_,rfl,t,C,dx,_,rfl,e2,T.cl,T.nB,(show 2 < 1000 by decide),?_⟩
  refine k _ kp bt ⟨?_,[],[],?_,?_,Kept.nil,Both.nil,Nat.zero_le _,Nat.zero_le _⟩ hk hb λb o hb' e=>?_
  ·rw [q01,z02]
  ·rw [q07 (Ne.symm kt),q07 kb,q07 (Ne.symm kt),q01]; rfl
  ·rw [q07 (Ne.symm bt'),q01]
  ·have b1:b≠kp:=λz=>by rw [z,hk] at e; cases e
   have b2:b≠bt:=λz=>by rw [z,hb] at e; cases e
   rw [q07 hb',q07 b2,q07 hb',q07 b1,q07 hb']
   exact e
def spTmany (C:Addr):Sp:=λvs H Q _=>∃(t dx kp bt:Addr) (n m:Nat) (rs:List Str),vs=[.ref t]/\TabAt C H t dx kp bt n m rs/\Q (.int (rs.length:Nat)) H
theorem sc_many:FnScope ["self"] ["self"] (q02 qr7):=⟨rfl,rfl,rfl,by decide +kernel,rfl,by decide +kernel,by decide +kernel⟩
theorem z20 (T:Tb K mg C fi fa ft fy fm fc gi ga gt gy gm gc)(M:Gm mg):FnOk P w K mg base (CXE P w) 1 fm gm ["self"] (spTmany C):=by
 refine T.Fm.okN sc_many (λvs H Q E h=>?_) (λcdv A outer s H vs Q E hr h=>?_)
 ·obtain ⟨t,dx,kp,bt,n,m,rs,rfl,_⟩:=h
  rfl
 ·obtain ⟨t,dx,kp,bt,n,m,rs,rfl,⟨ht,c,bvs,hk,hb,hK,hB,lc,lb⟩,k⟩:=h
  refine ⟨_,q05 (q13 (qJ6 rfl (by rfl) M.sum (qb3 (pv 0) rfl))),?_⟩
  refine ⟨_,rfl,t,C,dx,_,_,rfl,ht,T.cl,T.nK,rfl,kp,_,_,rfl,hk,fK_vals c,?_⟩
  rw [PySem.W.kpr_sum_vals,hK.sum]
  exact k
def qa4 (C:Addr):Sp:=λvs H Q _=>∃(t dx kp bt:Addr) (n m:Nat) (rs:List Str) (q a r b:Nat),vs=[.ref t,.int q,s1 a,.int r,s1 b]/\TabAt C H t dx kp bt n m rs/\q < n/\r < n/\qM1 a/\qM1 b/\∀ H',Same H H'->Q (.int (q29 rs q a r b:Nat)) H'
abbrev Ptc:List Str:=["self", "q", "a", "r", "b"]
theorem qO8:FnScope Ptc Ptc (q02 qc2):=⟨rfl,rfl,rfl,by decide +kernel,rfl,by decide +kernel,by decide +kernel⟩
theorem q70 {fn:Addr}{gn:FuncData}(T:Tb K mg C fi fa ft fy fm fc gi ga gt gy gm gc) (Dn:Df K mg "check_answers" qo9 Pca fn gn) (Gn:FnOk P w K mg base (CXE P w) 2 fn gn Pca z75):FnOk P w K mg base (CXE P w) 3 fc gc Ptc (qa4 C):=by
 refine T.Fc.okN qO8 (λvs H Q E h=>?_) (λcdv A outer s H vs Q E hr h=>?_)
 ·obtain ⟨t,dx,kp,bt,n,m,rs,q,a,r,b,rfl,_⟩:=h
  rfl
 ·obtain ⟨t,dx,kp,bt,n,m,rs,q,a,r,b,rfl,⟨ht,c,bvs,hk,hb,hK,hB,lc,lb⟩,hq,hr',ha,hb',k⟩:=h
  have hu:(A.deeper (envOfC "Table.count" (q02 qc2) s.heap.objs.size fc cdv)).units + 1 < cLine:=by have:=hr.units; omega
  refine ⟨_,q04 (q26 (q23 Dn Gn hr q19 (q00 (pv 1) (q00 (pv 2) (q00 (pv 3) (q00 (pv 4) (q00 (qb3 (pv 0) rfl) q03)))))))
   (q05 (q13 (qv0 hu (qb3 (pv 0) rfl) (q54 (q00 (pv 1) (q00 (pv 2) (q00 (pv 3) (q00 (pv 4) q03))))) q06 ⟨rfl,rfl,rfl,rfl⟩))),?_⟩
  refine ⟨_,rfl,_,rfl,_,rfl,_,rfl,_,rfl,t,C,dx,_,_,rfl,ht,T.cl,T.nQ,rfl,q,a,r,b,n,rfl,hq,hr',ha,hb',?_⟩
  refine ⟨_,rfl,t,C,dx,_,_,rfl,ht,T.cl,T.nB,rfl,bt,rfl,.inr ⟨_,.inl hb⟩,_,rfl,_,rfl,_,rfl,_,rfl,q22 (show 4<=100 by decide),λp hp=>?_⟩
  have eT:upd H p (.tup [.int q,s1 a,.int r,s1 b]) p=some (.tup ((bk q a r b).map kV)):=q01
  refine ⟨_,DGet.t (Same.new hp _ _ hb) eT,?_⟩
  rw [hB q a r b hq hr']
  exact k _ (Same.new hp)
def z64 (C:Addr):Sp:=λvs H Q _=>∃(t dx kp bt:Addr) (n m:Nat) (rs:List Str) (x:Str),vs=[.ref t,.str x]/\TabAt C H t dx kp bt n m rs/\Row n x/\1<=n/\n<=12/\m<=1000 /\
 ∀ H',TabAt C H' t dx kp bt n (m + 1) (x :: rs)->Keep2 kp bt H H'->Q .non H'
abbrev Pta:List Str:=["self", "row"]
theorem sc_tadd:FnScope Pta Pta (q02 qB9):=⟨rfl,rfl,rfl,by decide +kernel,rfl,by decide +kernel,by decide +kernel⟩
theorem ok_tadd {fw:Addr}{gw:FuncData}(T:Tb K mg C fi fa ft fy fm fc gi ga gt gy gm gc) (Dw:Df K mg "check_row" qo6 Pir fw gw) (Gw:FnOk P w K mg base (CXE P w) 3 fw gw Pir z72) (M:Gm mg):FnOk P w K mg base (CXE P w) 4 fa ga Pta (z64 C):=by
 refine T.Fa.okN sc_tadd (λvs H Q E h=>?_) (λcdv A outer s H vs Q E hr h=>?_)
 ·obtain ⟨t,dx,kp,bt,n,m,rs,x,rfl,_⟩:=h
  rfl
 ·obtain ⟨t,dx,kp,bt,n,m,rs,x,rfl,⟨ht,c,bvs,hk,hb,hK,hB,lc,lb⟩,hx,n1,n12,m1,k⟩:=h
  have hu:(A.deeper (envOfC "Table.add" (q02 qB9) s.heap.objs.size fa cdv)).units + 1 < cLine:=by have:=hr.units; omega
  refine ⟨_,q04 (q26 (q23 Dw Gw hr q19 (q00 (pv 1) (q00 (qb3 (pv 0) rfl) q03))))
   (q04 (qC0 hu (qb3 (pv 0) rfl) (pv 1) (q24 q46 (qv0 hu (qb3 (pv 0) rfl) (pv 1) q06 ⟨rfl,rfl,rfl,rfl⟩) q06) rfl)
   (q05 (q26 (q87 (pv 0) T.cl T.my (z22 T M) (hr.mono (by decide)) T.by' .nil q19 (q00 (pv 1) (q00 q06 q03)))))),?_⟩
  refine ⟨_,rfl,_,rfl,t,C,dx,_,_,rfl,ht,T.cl,T.nQ,rfl,x,n,rfl,hx,n1,n12,λH1 s1'=>?_⟩
  have t1:=s1' _ _ ht
  have k1:=s1' _ _ hk
  have b1:=s1' _ _ hb
  have ev:(q67 (c.map fK) (.inr x)).getD (.int 0)=.int (PySem.W.kprLook c x 0):=by
   rw [qM7]
   split
   ·rfl
   ·rename_i z
    rw [PySem.W.kpr_look_none (by simpa using z)]
    rfl
  refine ⟨_,rfl,t,C,dx,_,_,rfl,t1,T.cl,T.nK,rfl,kp,rfl,.inl ⟨_,.inl k1⟩,_,rfl,_,DGet.k (k:=.inr x) k1,_,_,ev,rfl,?_⟩
  refine ⟨_,rfl,t,C,dx,_,_,rfl,t1,T.cl,T.nK,rfl,_,rfl,kp,_,rfl,DPut.k (k:=.inr x) k1 ?_,?_⟩
  ·rw [List.length_map,sizeLine_eq]; omega
  have tk:t≠kp:=λz=>by rw [z,hk] at ht; cases ht
  have bk':bt≠kp:=λz=>by rw [z,hk] at hb; cases hb
  have ek:qj4 (c.map fK) (.inr x) ((λi j=>V.int (i + j)) (PySem.W.kprLook c x 0) 1)=(PySem.W.kprPut c x (PySem.W.kprLook c x 0 + 1)).map fK:=qP5 c x _
  rw [ek]
  refine ⟨_,rfl,t,dx,_,rfl,(by rw [q07 tk]; exact t1),rfl,_,rfl,t,dx,kp,bt,n,x,1,z97 rs,bvs,rfl,(by rw [q07 tk]; exact t1),(by rw [q07 bk']; exact b1),hB,by omega,hx,n12,λH' bvs' e' hB' l' k'=>?_⟩
  have lp:=q99 (c.map fK) (.inr x) (.int (PySem.W.kprLook c x 0 + 1))
  rw [qP5,List.length_map,List.length_map] at lp
  refine k H' ⟨?_,_,bvs',k' kp _ (Ne.symm bk') q01,e',hK.add x,hB'.add,by omega,by omega⟩ λb o h1 h2 e=>?_
  ·exact k' t _ (λz=>by rw [z,hb] at ht; cases ht) (by rw [q07 tk]; exact t1)
  ·exact k' b o h2 (by rw [q07 h1]; exact s1' b o e)
end
end K19
namespace L2
open PySem PySem.Spec PyProof.Rows
section
variable {X:Cx}
def z77 (K:PySem.W.Frag):R2:=λx y H Q=>∃ a b xs,x=.ref a/\y=.ref b/\SqL K H a xs/\SqL K H b []/\Q (.bl (!xs.isEmpty)) H
theorem qn2 (hu:X.A.units < cLine):OpR X (compareOp .NotEq) (z77 X.K):=by
 intro pins s σ H x y v u Q I rx ry h
 obtain ⟨a,b,xs,rfl,rfl,ha,hb,q⟩:=h
 cases rx
 cases ry
 obtain ⟨its,r1,p1,_⟩:=I.list ha
 obtain ⟨its2,r2,p2,_⟩:=I.list hb
 cases r2
 cases r1 with
 | nil=>exact PySem.EqBoolInt.of_rcne (SeqAt.RcNeAt.lists (e:=λ_=>true) p1.isList p2.isList rfl hu (λj h1 _=>absurd h1 (by simp))) ⟨.bl false,H,I,rfl,q⟩
 | cons r t=>exact PySem.EqBoolInt.of_rcne (SeqAt.RcNeAt.lists_lengths p1.isList p2.isList (by simp) hu) ⟨.bl true,H,I,rfl,q⟩
end
def Tups (H:Hp)(rs:List Addr)(ks:List (List Key)):Prop:=rs.length=ks.length/\∀(i:Nat) (r:Addr) (k:List Key),rs[i]? = some r->ks[i]? = some k->H r=some (.tup (k.map kV))
theorem Tups.nil {H:Hp}:Tups H [] []:=⟨rfl,λ_ _ _ h=>by cases h⟩
theorem Tups.mono {H H':Hp}{rs:List Addr}{ks:List (List Key)}(h:Tups H rs ks)(s:Same H H'):Tups H' rs ks:=⟨h.1,λi r k a b=>s _ _ (h.2 i r k a b)⟩
theorem Tups.upd {H:Hp}{rs:List Addr}{ks:List (List Key)}{p:Addr}{ys zs:List V}(h:Tups H rs ks)(hp:H p=some (.lst ys)):Tups (upd H p (.lst zs)) rs ks:=⟨h.1,λi r k a b=>by
 have e:=h.2 i r k a b
 rw [q07]
 ·exact e
 ·intro z
  rw [z,hp] at e
  cases e⟩
theorem Tups.append {H:Hp}{rs rs':List Addr}{ks ks':List (List Key)}(h:Tups H rs ks)(h':Tups H rs' ks'):Tups H (rs ++ rs') (ks ++ ks'):=by
 refine ⟨by rw [List.length_append,List.length_append,h.1,h'.1],λi r k hr hk=>?_⟩
 by_cases hi:i < rs.length
 ·rw [List.getElem?_append_left hi] at hr
  rw [List.getElem?_append_left (by rw [<- h.1]; exact hi)] at hk
  exact h.2 i r k hr hk
 ·rw [List.getElem?_append_right (by omega)] at hr
  rw [List.getElem?_append_right (by rw [<- h.1]; omega),<- h.1] at hk
  exact h'.2 _ r k hr hk
theorem Tups.one {H:Hp}{T:Addr}{k:List Key}(h:H T=some (.tup (k.map kV))):Tups H [T] [k]:=by
 refine ⟨rfl,λi r k' hr hk=>?_⟩
 cases i with
 | zero=>cases hr; cases hk; exact h
 | succ i=>cases hr
theorem Tups.snoc {H:Hp}{rs:List Addr}{ks:List (List Key)}{T:Addr}{k:List Key}(h:Tups H rs ks)(hT:H T=some (.tup (k.map kV))):Tups H (rs ++ [T]) (ks ++ [k]):=h.append (.one hT)
def dtK:Key->Dt
 | .inl i=>.int i
 | .inr x=>.str x
def dtT (k:List Key):Dt:=.tup (k.map dtK)
theorem den_key {K:PySem.W.Frag}{H:Hp}:∀ k:Key,Den K H (kV k) (dtK k)
 | .inl _=>.int _
 | .inr _=>.str _
theorem qV0 {K:PySem.W.Frag}{H:Hp}{T:Addr}{k:List Key}(h:H T=some (.tup (k.map kV)))(hl:k.length<=5000):Den K H (.ref T) (dtT k):=by
 refine .tup (SqT.of h) (by rw [List.length_map,List.length_map]) (by rw [List.length_map]; exact hl) λi u d hu hd=>?_
 rw [List.getElem?_map] at hu hd
 cases z:k[i]? with
 | none=>rw [z] at hu; cases hu
 | some y=>rw [z] at hu hd; cases hu; cases hd; exact den_key y
theorem qk9:∀ k:List Key,Dt.deep.deeps (k.map dtK)=0
 | []=>rfl
 | .inl _ :: r=>by show max 0 (Dt.deep.deeps (r.map dtK))=0; rw [qk9 r]; rfl
 | .inr _ :: r=>by show max 0 (Dt.deep.deeps (r.map dtK))=0; rw [qk9 r]; rfl
theorem qs9:∀ ks:List (List Key),Dt.deep.deeps (ks.map dtT)<=1
 | []=>Nat.zero_le _
 | k :: r=>by
  show max (dtT k).deep (Dt.deep.deeps (r.map dtT))<=1
  refine Nat.max_le.mpr ⟨?_,qs9 r⟩
  show 1 + Dt.deep.deeps (k.map dtK)<=1
  rw [qk9]
  exact Nat.le_refl 1
end L2
namespace L2
open PySem
theorem qb5 {i:Nat}{tb:TBd}{N:St->Hp->Prop}{x:V}{σ:St}{H:Hp}(h:tb (σ.set i (some x)) H N):qX3 (q81 i) tAll tb N x σ H:=q48 (B:=N (σ.set i (some x)) H) h
theorem qk6 {K:PySem.W.Frag}{i j:Nat}{tb:TBd}{N:St->Hp->Prop}{x y:V}{T:Addr}{σ:St}{H:Hp}(hT:SqT K H T [x,y])(h:tb ((σ.set i (some x)).set j (some y)) H N):qX3 (qM3 K 2 (qa1 (q81 i) (qa1 (q81 j) qM4))) tAll tb N (.ref T) σ H :=
 ⟨T,_,rfl,hT,rfl,_,_,rfl,_,_,rfl,rfl,q48 (B:=N ((σ.set i (some x)).set j (some y)) H) h⟩
theorem small_k (l:List (List Key))(h:l.length<=1000):l.length < sizeLine:=Nat.lt_of_le_of_lt h (by decide)
structure Acc (H0:Hp) (p:Addr) (H:Hp) (ks:List (List Key)):Prop where
 same:Same H0 H
 at_:∃ rs:List Addr,H p=some (.lst (rs.map V.ref))/\Tups H rs ks
theorem Acc.put {H0 H H1:Hp}{p T:Addr}{ks:List (List Key)}{k:List Key}(A:Acc H0 p H ks)(hp:H0 p=none)(s:Same H H1)(hT:H1 T=none):∃ ys,upd H1 T (.tup (k.map kV)) p=some (.lst ys)/\ys.length=ks.length/\Acc H0 p (upd (upd H1 T (.tup (k.map kV))) p (.lst (ys ++ [.ref T]))) (ks ++ [k]):=by
 obtain ⟨s0,rs,e,t⟩:=A
 have s1:=s.trans' (Same.new (o:=.tup (k.map kV)) hT)
 have e1:=s1 _ _ e
 refine ⟨_,e1,by rw [List.length_map]; exact t.1,Same.grow hp (s0.trans' s1),rs ++ [T],?_,?_⟩
 ·rw [q01,List.map_append]
  rfl
 ·have t1:Tups (upd H1 T (.tup (k.map kV))) (rs ++ [T]) (ks ++ [k]):=(t.mono s1).snoc q01
  exact t1.upd e1
theorem Acc.mono {H0 H H1:Hp}{p:Addr}{ks:List (List Key)}(A:Acc H0 p H ks)(s:Same H H1):Acc H0 p H1 ks:=by
 obtain ⟨s0,rs,e,t⟩:=A
 exact ⟨s0.trans' s,rs,s _ _ e,t.mono s⟩
theorem Acc.back {H0 H1 H:Hp}{p:Addr}{ks:List (List Key)}(A:Acc H1 p H ks)(s:Same H0 H1):Acc H0 p H ks:=⟨s.trans' A.same,A.at_⟩
theorem Tups.item {H:Hp}{rs:List Addr}{ks:List (List Key)}(h:Tups H rs ks){i:Nat}{x:V}(hi:(rs.map V.ref)[i]? = some x):∃ r k,x=.ref r/\ks[i]? = some k/\H r=some (.tup (k.map kV)):=by
 rw [List.getElem?_map] at hi
 cases z:rs[i]? with
 | none=>rw [z] at hi; cases hi
 | some r =>
  rw [z] at hi
  cases hi
  have il:i < rs.length:=(List.getElem?_eq_some_iff.mp z).1
  have e:ks[i]? = some (ks[i]'(by rw [<- h.1]; exact il)):=List.getElem?_eq_getElem (by rw [<- h.1]; exact il)
  exact ⟨r,_,rfl,e,h.2 i r _ z e⟩
def qa3 {α β:Type}(l:List α)(i:Nat)(F:α->List β):List β:=(l.take i).flatMap F
theorem q91 {α β:Type}{l:List α}{i:Nat}{a:α}{F:α->List β}(h:l[i]? = some a):qa3 l (i + 1) F=qa3 l i F ++ F a:=by
 unfold qa3
 rw [List.take_add_one,h,List.flatMap_append]
 simp
theorem q92 {α β:Type}{l:List α}{F:α->List β}{m:Nat}(h:∀ a,(F a).length<=m):∀ i,(qa3 l i F).length<=i * m
 | 0=>by simp [qa3]
 | i + 1=>by
  cases e:l[i]? with
  | some a=>rw [q91 e,List.length_append,Nat.succ_mul]; exact Nat.add_le_add (q92 h i) (h a)
  | none =>
   have:qa3 l (i + 1) F=qa3 l i F:=by unfold qa3; rw [List.take_add_one,e]; simp
   rw [this,Nat.succ_mul]
   exact Nat.le_trans (q92 h i) (Nat.le_add_right _ _)
def sk (q a:Nat):List Key:=[.inl q,.inr ⟨#[a]⟩]
def qk (q r:Nat):List Key:=[.inl q,.inl r]
structure Pat (n:Nat) (x:Str):Prop where
 len:x.length=n
 sgn:∀ i,i < n->ch x i=121∨ch x i=110∨ch x i=45
def z59 (x:Str)(q:Nat):List (Nat×Nat):=if ch x q=45 then [] else [(q,ch x q)]
def q71 (x:Str)(n:Nat):List (Nat×Nat):=(List.range n).flatMap (z59 x)
theorem qr2 (x:Str)(n:Nat):q71 x (n + 1)=q71 x n ++ z59 x n:=by unfold q71; rw [List.range_succ,List.flatMap_append]; simp
theorem qd7 (x:Str):∀ n,(q71 x n).length<=n
 | 0=>by simp [q71]
 | n + 1=>by
  rw [qr2,List.length_append]
  have:(z59 x n).length<=1:=by unfold z59; split <;> simp
  have:=qd7 x n
  omega
theorem qa9 {x:Str}{n:Nat}{p:Nat×Nat}(h:p∈q71 x n):p.1 < n/\p.2=ch x p.1/\¬ p.2=45:=by
 obtain ⟨q,hq,h⟩:=List.mem_flatMap.mp h
 unfold z59 at h
 split at h
 ·cases h
 ·rename_i z
  rw [List.mem_singleton.mp h]
  exact ⟨List.mem_range.mp hq,rfl,z⟩
theorem qf3 {x:Str}{n q:Nat}(h:q < n)(z:¬ ch x q=45):(q,ch x q)∈q71 x n:=by
 refine List.mem_flatMap.mpr ⟨q,List.mem_range.mpr h,?_⟩
 unfold z59
 rw [if_neg z]
 exact List.mem_singleton.mpr rfl
def skP (p:Nat×Nat):List Key:=sk p.1 p.2
def pgB (rs:List Str)(m:Nat)(p p':Nat×Nat):List (List Key):=if p.1<=p'.1/\q29 rs p.1 p.2 p'.1 p'.2=m then [qk p.1 p'.1] else []
def pgA (rs:List Str)(m:Nat)(G:List (Nat×Nat))(p:Nat×Nat):List (List Key):=qa3 G G.length (pgB rs m p)
def pgM (rs:List Str)(m:Nat)(G:List (Nat×Nat)):List (List Key):=qa3 G G.length (pgA rs m G)
theorem qQ0 (rs:List Str)(m:Nat)(p p':Nat×Nat):(pgB rs m p p').length<=1:=by unfold pgB; split <;> simp
theorem pgA_len (rs:List Str)(m:Nat)(G:List (Nat×Nat))(p:Nat×Nat):(pgA rs m G p).length<=G.length:=Nat.le_trans (q92 (qQ0 rs m p) G.length) (by omega)
theorem qa2 (rs:List Str)(q a r b:Nat):q29 rs q a r b=q29 rs r b q a:=by
 unfold q29
 congr 1
 funext x
 exact decide_eq_decide.mpr And.comm
def qX5 (rs:List Str)(n:Nat)(x:Str):Prop:=∀ q r,q < n->r < n->0 < q29 rs q (ch x q) r (ch x r)
theorem z43 {rs:List Str}{n:Nat}{x:Str}(h:qX5 rs n x):pgM rs 0 (q71 x n)=[]:=by
 refine List.eq_nil_iff_forall_not_mem.mpr λk hk=>?_
 obtain ⟨p,hp,hk⟩:=List.mem_flatMap.mp hk
 obtain ⟨p',hp',hk⟩:=List.mem_flatMap.mp hk
 obtain ⟨h1,h2,_⟩:=qa9 (List.mem_of_mem_take hp)
 obtain ⟨h3,h4,_⟩:=qa9 (List.mem_of_mem_take hp')
 have:=h p.1 p'.1 h1 h3
 unfold pgB at hk
 rw [if_neg (λz=>by rw [h2,h4] at z; omega)] at hk
 cases hk
theorem z76 {n:Nat}{x:Str}(h:x.length=n):x=tx n (ch x):=by
 obtain ⟨a⟩:=x
 subst h
 unfold tx
 congr 1
 apply Array.ext
 ·simp [Str.length]
 ·intro i h1 h2
  simp [ch]
  rw [Array.getElem?_eq_getElem h1]
  rfl
theorem qb8 {n:Nat}{c:Nat->Nat}{i:Nat}(hi:i < n):ch (tx n c) i=c i:=by
 unfold ch tx
 simp [Array.getD_eq_getD_getElem?,hi]
end L2
namespace K19
open PySem L2
open PyProof.Rows (envOfC)
abbrev qu3:Stmt:=top 39
abbrev s_pg:Stmt:=top 38
abbrev qo5:Stmt:=top 37
theorem TabAt.mono {C:Addr}{H H':Hp}{t dx kp bt:Addr}{n m:Nat}{rs:List Str}(h:TabAt C H t dx kp bt n m rs)(s:Same H H'):TabAt C H' t dx kp bt n m rs:=by
 obtain ⟨i,c,bvs,e1,e2,r⟩:=h
 exact ⟨s _ _ i,c,bvs,s _ _ e1,s _ _ e2,r⟩
section
variable {P:Program}{w:World}{K:PySem.W.Frag}{mg:Str->Option Value}{base:Heap}{C fi fa ft fy fm fc:Addr}{gi ga gt gy gm gc:FuncData}
def spAns:Sp:=λvs H Q _=>∃(x:Str) (n:Nat),vs=[.str x]/\x.length=n/\n<=12/\∀ p H',H p=none->Acc H p H' ((q71 x n).map skP)->Q (.ref p) H'
theorem sc_ans:FnScope ["pattern"] ["pattern"] (q02 qu3):=⟨rfl,rfl,rfl,by decide +kernel,rfl,by decide +kernel,by decide +kernel⟩
theorem qG5:(["question", "sign"]:List Str).Nodup:=by decide +kernel
theorem qR4 {f:Addr}{fd:FuncData}(D:Df K mg "answers" qu3 ["pattern"] f fd) (M:Gm mg):FnOk P w K mg base (CXE P w) 1 f fd ["pattern"] spAns:=by
 refine D.F.okN sc_ans (λvs H Q E h=>?_) (λcdv A outer s H vs Q E hr h=>?_)
 ·obtain ⟨x,n,rfl,_⟩:=h
  rfl
 ·obtain ⟨x,n,rfl,hx,n12,k⟩:=h
  refine ⟨_,q05 (q13 (q38 (g:=qM3 K 2 (qa1 (q81 0) (qa1 (q81 1) qM4))) (N':=["question", "sign"]) (fm:=[none,none]) rfl ⟨rfl,by decide +kernel,by decide +kernel,rfl,rfl,rfl⟩
    (qu9 (by rfl) M.enum (q00 (pv 0) q03))
    (λ_ _ _ _=>q64 rfl (q17 (q09 (i:=0) qG5 rfl (Or.inl rfl)) (q17 (q09 (i:=1) qG5 rfl (Or.inl rfl)) q44)))
    (λ_ _ _ _=>q86 (q11 qv5 (pv 1) q15 (q14 _)))
    (λ_ _ _ _=>q54 (q00 (pv 0) (q00 (pv 1) q03))))),?_⟩
  refine ⟨_,rfl,x,rfl,λp hp=>?_⟩
  refine qI4 (λi σ H2=>∃ v0 v1,σ=[v0,v1]/\Acc H p H2 ((q71 x i).map skP)) ⟨none,none,rfl,Same.new hp,[],q01,Tups.nil⟩ ?_ ?_
  ·rintro i T σ H2 hi hT ⟨v0,v1,rfl,a2⟩
   rw [hx] at hi
   have sT:=Same.new (o:=.tup [.int i,sg x i]) hT
   refine ⟨T,_,rfl,SqT.of q01,rfl,_,_,rfl,_,_,rfl,rfl,?_⟩
   refine ⟨_,rfl,rfl,_,rfl,qd4 (λz=>?_) (λz=>?_)⟩
   ·have z:(!decide (s1 (ch x i)=s1 45))=true:=z
    rw [qj1] at z
    have z:¬ ch x i=45:=by simpa using z
    refine ⟨_,rfl,_,rfl,q22 (show 2<=100 by decide),λT2 hT2=>?_⟩
    obtain ⟨ys,e1,l1,a3⟩:=a2.put (k:=skP (i,ch x i)) hp sT hT2
    refine ⟨ys,e1,?_,_,_,rfl,?_⟩
    ·rw [l1,List.length_map]
     have:=qd7 x i
     exact Nat.lt_of_le_of_lt (show _<=12 by omega) (by decide)
    ·have e:(q71 x (i + 1)).map skP=(q71 x i).map skP ++ [skP (i,ch x i)]:=by
      rw [qr2]; unfold z59; rw [if_neg z,List.map_append]; rfl
     rw [e]
     exact a3
   ·have z:¬ (!decide (s1 (ch x i)=s1 45))=true:=z
    rw [qj1] at z
    have z:ch x i=45:=by simpa using z
    refine ⟨_,_,rfl,?_⟩
    have e:(q71 x (i + 1)).map skP=(q71 x i).map skP:=by
     rw [qr2]; unfold z59; rw [if_pos z,List.append_nil]
    rw [e]
    exact a2.mono sT
  ·rintro σ H2 ⟨v0,v1,rfl,a2⟩
   rw [hx] at a2
   exact k p H2 hp a2
def spPg (C:Addr):Sp:=λvs H Q _=>∃(t dx kp bt:Addr) (n m:Nat) (rs:List Str) (x:Str) (c:Nat),vs=[.ref t,.str x,.int c]/\TabAt C H t dx kp bt n m rs/\Pat n x/\n<=12/\∀ p H',H p=none->Acc H p H' (pgM rs c (q71 x n))->Q (.ref p) H'
abbrev Npg:List Str:=["table", "pattern", "many", "given"]
abbrev Ppg:List Str:=["table", "pattern", "many"]
theorem sc_pg:FnScope Npg Ppg (q02 s_pg):=⟨rfl,rfl,rfl,by decide +kernel,rfl,by decide +kernel,by decide +kernel⟩
abbrev Npc:List Str:=["q", "a", "r", "b", "given", "table", "many"]
theorem z38:Npc.Nodup:=by decide +kernel
theorem qF3 {n:Nat}{x:Str}(h:Pat n x){p:Nat×Nat}(hp:p∈q71 x n):p.1 < n/\qM1 p.2:=by
 obtain ⟨h1,h2,h3⟩:=qa9 hp
 have:=h.sgn p.1 h1
 exact ⟨h1,by unfold qM1; omega⟩
theorem ok_pg {f fn:Addr}{fd gn:FuncData}(D:Df K mg "pairs_given" s_pg Ppg f fd) (Dn:Df K mg "answers" qu3 ["pattern"] fn gn) (T:Tb K mg C fi fa ft fy fm fc gi ga gt gy gm gc) (Gc:FnOk P w K mg base (CXE P w) 3 fc gc Ptc (qa4 C)) (M:Gm mg):FnOk P w K mg base (CXE P w) 4 f fd Ppg (spPg C):=by
 refine D.F.okN sc_pg (λvs H Q E h=>?_) (λcdv A outer s H vs Q E hr h=>?_)
 ·obtain ⟨t,dx,kp,bt,n,m,rs,x,c,rfl,_⟩:=h
  rfl
 ·obtain ⟨t,dx,kp,bt,n,m,rs,x,c,rfl,tab,hx,n12,k⟩:=h
  refine ⟨_,q04 (q18 (i:=3) sc_pg.nd rfl (Or.inr rfl) (q23 Dn (qR4 Dn M) (hr.mono (by decide)) q19 (q00 (pv 1) q03)))
   (q05 (q13 (qn0 (g:=qM3 K 2 (qa1 (q81 0) (qa1 (q81 1) qM4))) (N':=Npc) (fm:=[none,none,none,none,some 3,some 0,some 2]) rfl ⟨rfl,by decide +kernel,by decide +kernel,rfl,rfl,rfl⟩
    (q27 (pv 3)) (λ_ _ _ _=>q64 rfl (q17 (q09 (i:=0) z38 rfl (Or.inl rfl)) (q17 (q09 (i:=1) z38 rfl (Or.inl rfl)) q44))) (λ_ _ _ _=>q35)
    (λ_ _ _ _ _=>qv1 (wi:=iList K (qE8 4)) (g:=qM3 K 2 (qa1 (q81 2) (qa1 (q81 3) qM4))) rfl (λ_ _ z=>z) (q27 (pv 4)) (q64 rfl (q17 (q09 (i:=2) z38 rfl (Or.inl rfl)) (q17 (q09 (i:=3) z38 rfl (Or.inl rfl)) q44)))
      (q86 (PW.pt (q72 (q11 op_le (pv 0) (pv 2) (q14 _)) (q53 (q11 q58 (q87 (pv 5) T.cl T.mc Gc hr T.bc .nil q19 (q00 (pv 0) (q00 (pv 1) (q00 (pv 2) (q00 (pv 3) q03))))) (pv 6) (q14 _))))))
      (qv2 (λ_ _ z=>z) (q54 (q00 (pv 0) (q00 (pv 2) q03)))))))),?_⟩
  refine ⟨_,rfl,x,n,rfl,hx.len,n12,λg H1 hg a1=>?_⟩
  obtain ⟨s1',grs,eg,tg⟩:=a1
  refine ⟨_,rfl,g,rfl,⟨_,SqL.of eg⟩,λp hp=>?_⟩
  have gl:=qd7 x n
  have hpH:H p=none:=by
   cases z:H p with
   | none=>rfl
   | some o=>rw [s1' _ _ z] at hp; cases hp
  have lG:grs.length=(q71 x n).length:=by rw [tg.1,List.length_map]
  refine qC6 (K:=K) (a:=g) (xs:=grs.map V.ref) (λi σ H2=>∃ v0 v1 v2 v3,σ=[v0,v1,v2,v3,some (.ref g),some (.ref t),some (.int c)]/\Acc H1 p H2 (qa3 (q71 x n) i (pgA rs c (q71 x n)))) ⟨none,none,none,none,rfl,Same.new hp,[],q01,Tups.nil⟩
   (λi σ H2 _ ⟨_,_,_,_,_,a2⟩=>SqL.of (a2.same _ _ eg)) ?_ ?_
  ·rintro i y σ H2 hi ⟨v0,v1,v2,v3,rfl,a2⟩
   obtain ⟨r1,k1,rfl,ek,er⟩:=(tg.mono a2.same).item hi
   rw [List.getElem?_map] at ek
   cases z:(q71 x n)[i]? with
   | none=>rw [z] at ek; cases ek
   | some pq =>
    rw [z] at ek
    cases ek
    obtain ⟨q1,sq⟩:=qF3 hx (List.mem_of_getElem? z)
    have i12:i < 12:=by have:=(List.getElem?_eq_some_iff.mp z).1; omega
    refine qk6 (SqT.of er) ?_
    refine ⟨_,rfl,g,rfl,⟨_,SqL.of (a2.same _ _ eg)⟩,?_⟩
    refine qC6 (K:=K) (a:=g) (xs:=grs.map V.ref) (λj σ H3=>∃ v2 v3,σ=[some (.int pq.1),some (s1 pq.2),v2,v3,some (.ref g),some (.ref t),some (.int c)]/\Acc H1 p H3 (qa3 (q71 x n) i (pgA rs c (q71 x n)) ++ qa3 (q71 x n) j (pgB rs c pq))) ⟨_,_,rfl,by simpa [qa3] using a2⟩
     (λj σ H3 _ ⟨_,_,_,a3⟩=>SqL.of (a3.same _ _ eg)) ?_ ?_
    ·rintro j y σ H3 hj ⟨v2,v3,rfl,a3⟩
     obtain ⟨r2,k2,rfl,ek2,er2⟩:=(tg.mono a3.same).item hj
     rw [List.getElem?_map] at ek2
     cases z2:(q71 x n)[j]? with
     | none=>rw [z2] at ek2; cases ek2
     | some rq =>
      rw [z2] at ek2
      cases ek2
      obtain ⟨r1',sr⟩:=qF3 hx (List.mem_of_getElem? z2)
      have j12:j < 12:=by have:=(List.getElem?_eq_some_iff.mp z2).1; omega
      have no:¬ (pq.1<=rq.1/\q29 rs pq.1 pq.2 rq.1 rq.2=c)->qa3 (q71 x n) (j + 1) (pgB rs c pq)=qa3 (q71 x n) j (pgB rs c pq):=λy=>by
       rw [q91 z2]; unfold pgB; rw [if_neg y,List.append_nil]
      refine ⟨r2,_,rfl,SqT.of er2,rfl,_,_,rfl,_,_,rfl,rfl,?_⟩
      refine ⟨_,rfl,_,rfl,_,_,rfl,rfl,_,rfl,qd4 (λz0=>?_) (λz0=>?_)⟩
      ·have z0:(pq.1:Int)<=rq.1:=of_decide_eq_true z0
       have tab3:=tab.mono (s1'.trans' a3.same)
       refine ⟨_,rfl,t,dx,_,rfl,tab3.ins,rfl,_,rfl,_,rfl,_,rfl,_,rfl,t,dx,kp,bt,n,m,rs,pq.1,pq.2,rq.1,rq.2,rfl,tab3,q1,r1',sq,sr,λH6 s6=>⟨_,rfl,rfl,_,rfl,?_⟩⟩
       refine qd4 (λy=>?_) (λy=>?_)
       ·have y:decide (V.int (q29 rs pq.1 pq.2 rq.1 rq.2:Nat)=V.int (c:Nat))=true:=y
        rw [qb0] at y
        have y:q29 rs pq.1 pq.2 rq.1 rq.2=c:=by
         have:((q29 rs pq.1 pq.2 rq.1 rq.2:Nat):Int)=(c:Nat):=by simpa using y
         omega
        refine ⟨_,rfl,_,rfl,q22 (show 2<=100 by decide),λT1 hT=>?_⟩
        obtain ⟨ys,e1,l1,a6⟩:=a3.put (k:=qk pq.1 rq.1) hp s6 hT
        refine ⟨ys,e1,?_,_,_,rfl,?_⟩
        ·rw [l1]
         refine small_k _ ?_
         have h1:=q92 (l:=q71 x n) (pgA_len rs c (q71 x n)) i
         have h4:=q92 (l:=q71 x n) (qQ0 rs c pq) j
         have h5:i * (q71 x n).length<=12 * 12:=Nat.mul_le_mul (by omega) (by omega)
         rw [List.length_append]
         omega
        ·have e:qa3 (q71 x n) (j + 1) (pgB rs c pq)=qa3 (q71 x n) j (pgB rs c pq) ++ [qk pq.1 rq.1]:=by
          rw [q91 z2]; unfold pgB; rw [if_pos ⟨by omega,y⟩]
         rw [e,<- List.append_assoc]
         exact a6
       ·have y:¬ decide (V.int (q29 rs pq.1 pq.2 rq.1 rq.2:Nat)=V.int (c:Nat))=true:=y
        rw [qb0] at y
        refine ⟨_,_,rfl,?_⟩
        rw [no (λw=>y (by rw [w.2]; exact beq_self_eq_true _))]
        exact a3.mono s6
      ·have z0:¬ decide ((pq.1:Int)<=rq.1)=true:=z0
       have z0:¬ (pq.1:Int)<=rq.1:=by simpa using z0
       refine q30 ⟨_,_,rfl,?_⟩
       rw [no (λw=>z0 (by omega))]
       exact a3
    ·rintro σ H3 ⟨v2,v3,rfl,a3⟩
     refine ⟨_,_,_,_,rfl,?_⟩
     rw [q91 z]
     rw [List.length_map,lG] at a3
     exact a3
  ·rintro σ H2 ⟨v0,v1,v2,v3,rfl,a2⟩
   rw [List.length_map,lG] at a2
   exact k p H2 hpH (a2.back s1')
abbrev qo7:Stmt:=top 20
abbrev qg7:Stmt:=top 22
def z70 (C:Addr):Sp:=λvs H Q _=>∃(t dx kp bt:Addr) (n m:Nat) (rs:List Str) (x:Str),vs=[.ref t,.str x]/\TabAt C H t dx kp bt n m rs/\Pat n x/\n<=12/\∀ p H',H p=none->Acc H p H' (pgM rs 0 (q71 x n))->Q (.ref p) H'
abbrev Pgp:List Str:=["table", "pattern"]
theorem sc_gaps:FnScope Pgp Pgp (q02 qo5):=⟨rfl,rfl,rfl,by decide +kernel,rfl,by decide +kernel,by decide +kernel⟩
theorem ok_gaps {f fp:Addr}{fd gp:FuncData}(D:Df K mg "gaps" qo5 Pgp f fd) (Dp:Df K mg "pairs_given" s_pg Ppg fp gp) (Gp:FnOk P w K mg base (CXE P w) 4 fp gp Ppg (spPg C)):FnOk P w K mg base (CXE P w) 5 f fd Pgp (z70 C):=by
 refine D.F.okN sc_gaps (λvs H Q E h=>?_) (λcdv A outer s H vs Q E hr h=>?_)
 ·obtain ⟨t,dx,kp,bt,n,m,rs,x,rfl,_⟩:=h
  rfl
 ·obtain ⟨t,dx,kp,bt,n,m,rs,x,rfl,tab,hx,n12,k⟩:=h
  refine ⟨_,q05 (q13 (q23 Dp Gp hr q19 (q00 (pv 0) (q00 (pv 1) (q00 q06 q03))))),?_⟩
  exact ⟨_,rfl,_,rfl,t,dx,kp,bt,n,m,rs,x,0,rfl,tab,hx,n12,k⟩
end
end K19
namespace L2
open PySem PySem.Spec PyProof.Rows
section
variable {X:Cx}
def rSlX:V->Option Int->Option Int->Hp->VK->Prop:=λx lo hi H Q=>∃ z,x=.str z/\z.length<=sizeLine/\Q (.str (Txt.slice z lo hi)) H
theorem qu1:SlR X rSlX:=by
 intro pins s σ H x v vl vu lo hi sl Q I rx hs pl pu h
 obtain ⟨z,rfl,hz,q⟩:=h
 obtain ⟨t,rfl⟩:=rx
 have fin:∀(t' k:Nat),EP X pins σ Q (.str (Txt.slice z lo hi) t') { s with toks:=k }:=λt' k=>⟨.str _,H,I.tok k,⟨t',rfl⟩,q⟩
 refine ⟨"str",_,slot_str_getitem.lookup,typeIs_str _ _ _,?_⟩
 cases pl with
 | none =>
  cases pu with
  | none=>exact wpAny_getItem_str_slice (l:=none) (u:=none) (st:=none) hs rfl (post_val_or_str ⟨Nat.le_trans (Txt.slice_le z _ _) hz,λt' k=>fin _ _⟩)
  | int j uj=>exact wpAny_getItem_str_slice (l:=none) (u:=some (j,uj)) (st:=none) hs rfl (post_val_or_str ⟨Nat.le_trans (Txt.slice_le z _ _) hz,λt' k=>fin _ _⟩)
 | int i ui =>
  cases pu with
  | none=>exact wpAny_getItem_str_slice (l:=some (i,ui)) (u:=none) (st:=none) hs rfl (post_val_or_str ⟨Nat.le_trans (Txt.slice_le z _ _) hz,λt' k=>fin _ _⟩)
  | int j uj=>exact wpAny_getItem_str_slice (l:=some (i,ui)) (u:=some (j,uj)) (st:=none) hs rfl (post_val_or_str ⟨Nat.le_trans (Txt.slice_le z _ _) hz,λt' k=>fin _ _⟩)
end
theorem qy7 (x:Str)(l u:Option Int)(a b:Nat)(hb:b<=x.length)(e:Builtin.Str.strSliceIndices l u 1 x.length=sliceRange a b 1):(Txt.slice x l u).cps.toList=(x.cps.toList.drop a).take (b - a):=by
 unfold Txt.slice
 rw [e,sliceRange_one]
 by_cases h:((1:Int) == 1 && ((List.range (b - a)).map (a + ·)).length == x.length)=true
 ·rw [if_pos h]
  rw [List.length_map,List.length_range] at h
  have h:b - a=x.length:=by simpa using h
  have ha:a=0∨x.length=0:=by omega
  have hs:x.cps.toList.length=x.length:=by simp [Str.length]
  rcases ha with ha | ha
  ·subst ha
   rw [List.drop_zero,List.take_of_length_le (by omega)]
  ·have:x.cps.toList=[]:=List.length_eq_zero_iff.mp (by omega)
   rw [this]; simp
 ·rw [if_neg h]
  simp only [pick_run]
theorem qY8 (x:Str)(q:Nat)(hq:q<=x.length):(Txt.slice x none (some q)).cps.toList=x.cps.toList.take q:=by
 rw [qy7 x none (some q) 0 q hq]
 ·simp
 ·unfold Builtin.Str.strSliceIndices
  simp only [show (1:Int) > 0 by decide,if_true]
  congr 1
  rw [if_neg (by omega)]
  omega
theorem qY9 (x:Str)(q:Nat)(hq:q<=x.length):(Txt.slice x (some q) none).cps.toList=x.cps.toList.drop q:=by
 have hs:x.cps.toList.length=x.length:=by simp [Str.length]
 rw [qy7 x (some q) none q x.length (Nat.le_refl _)]
 ·exact List.take_of_length_le (by rw [List.length_drop]; omega)
 ·unfold Builtin.Str.strSliceIndices
  simp only [show (1:Int) > 0 by decide,if_true]
  congr 1
  rw [if_neg (by omega)]
  omega
def qu2 (x:Str)(q a:Nat)(i:Nat):Nat:=if i=q then a else ch x i
theorem qx9 (n:Nat)(c:Nat->Nat):(tx n c).cps.toList=(List.range n).map c:=by unfold tx; simp
theorem qM6 {n q a:Nat}{x:Str}(hx:x.length=n)(hq:q < n):Txt.slice x none (some (q:Int)) ++ (⟨#[a]⟩:Str) ++ Txt.slice x (some ((q:Int) + 1)) none=tx n (qu2 x q a):=by
 have h1:=qY8 x q (by omega)
 have h2:=qY9 x (q + 1) (by omega)
 have eq1:(((q + 1:Nat):Int))=(q:Int) + 1:=by omega
 rw [eq1] at h2
 have hxl:x.cps.toList=(List.range n).map (ch x):=by
  have:=z76 hx
  rw [this,qx9]
  refine List.map_congr_left λi hi=>?_
  rw [qb8 (List.mem_range.mp hi)]
 have key:(Txt.slice x none (some (q:Int)) ++ (⟨#[a]⟩:Str) ++ Txt.slice x (some ((q:Int) + 1)) none).cps.toList=(tx n (qu2 x q a)).cps.toList:=by
  show ((Txt.slice x none (some (q:Int))).cps ++ #[a] ++ (Txt.slice x (some ((q:Int) + 1)) none).cps).toList=_
  rw [Array.toList_append,Array.toList_append,h1,h2,hxl,qx9]
  apply List.ext_getElem?
  intro i
  rw [<- List.map_take,<- List.map_drop]
  by_cases hi:i < q
  ·rw [List.append_assoc,List.getElem?_append_left (by rw [List.length_map,List.length_take,List.length_range]; omega),List.getElem?_map,List.getElem?_map,List.getElem?_take,if_pos hi,List.getElem?_range (by omega)]
   show some (ch x i)=some (qu2 x q a i)
   unfold qu2
   rw [if_neg (by omega)]
  ·by_cases he:i=q
   ·subst he
    rw [List.getElem?_append_left (by rw [List.length_append,List.length_map,List.length_take,List.length_range]; show i < min i n + 1; omega),List.getElem?_append_right (by rw [List.length_map,List.length_take,List.length_range]; omega),List.length_map,List.length_take,List.length_range,List.getElem?_map,List.getElem?_range hq]
    have:i - min i n=0:=by omega
    rw [this]
    show some a=some (qu2 x i a i)
    unfold qu2
    rw [if_pos rfl]
   ·have l1:(List.map (ch x) (List.take q (List.range n)) ++ #[a].toList).length=q + 1:=by
     rw [List.length_append,List.length_map,List.length_take,List.length_range]
     show min q n + 1=q + 1
     omega
    rw [List.getElem?_append_right (by rw [l1]; omega),l1,List.getElem?_map,List.getElem?_drop,List.getElem?_map]
    have e:q + 1 + (i - (q + 1))=i:=by omega
    rw [e]
    by_cases hn:i < n
    ·rw [List.getElem?_range hn]
     show some (ch x i)=some (qu2 x q a i)
     unfold qu2
     rw [if_neg he]
    ·rw [List.getElem?_eq_none (by rw [List.length_range]; omega)]
     rfl
 have:∀ s t:Str,s.cps.toList=t.cps.toList->s=t:=λs t h=>by
  obtain ⟨s⟩:=s
  obtain ⟨t⟩:=t
  congr 1
  exact Array.toList_inj.mp h
 exact this _ _ key
def qb9 (rs:List Str)(n:Nat)(x:Str):Prop:=∀ q r,q < n->r < n->¬ ch x q=45->¬ ch x r=45->0 < q29 rs q (ch x q) r (ch x r)
def Fits (rs:List Str)(n:Nat)(x:Str)(q a:Nat):Prop:=0 < q29 rs q a q a/\∀ r,r < n->¬ ch x r=45->0 < q29 rs q a r (ch x r)
theorem cnt_pos {rs:List Str}{q a r b:Nat}:0 < q29 rs q a r b↔∃ x∈rs,ch x q=a/\ch x r=b:=by
 unfold q29
 rw [List.countP_pos_iff]
 exact ⟨λ⟨x,h,e⟩=>⟨x,h,of_decide_eq_true e⟩,λ⟨x,h,e⟩=>⟨x,h,decide_eq_true e⟩⟩
theorem fit_one {rs:List Str}{n:Nat}{x:Str}{q:Nat}(hS:qb9 rs n x)(hrs:∀ y∈rs,Row n y)(h0:rs≠[])(hq:q < n)(hn:¬ Fits rs n x q 110):Fits rs n x q 121:=by
 have bin:∀ y∈rs,ch y q=121∨ch y q=110:=λy hy=>(hrs y hy).bin q hq
 by_cases h1:0 < q29 rs q 110 q 110
 ·have:∃ r,r < n/\¬ ch x r=45/\¬ 0 < q29 rs q 110 r (ch x r):=by
   apply Classical.byContradiction
   intro hc
   refine hn ⟨h1,λr hr hx=>?_⟩
   apply Classical.byContradiction
   intro z
   exact hc ⟨r,hr,hx,z⟩
  obtain ⟨r,hr,hxr,zr⟩:=this
  have all:∀ y∈rs,ch y r=ch x r->ch y q=121:=λy hy e=>by
   rcases bin y hy with b | b
   ·exact b
   ·exact absurd (cnt_pos.mpr ⟨y,hy,b,e⟩) zr
  refine ⟨?_,λr' hr' hx'=>?_⟩
  ·obtain ⟨y,hy,e1,_⟩:=cnt_pos.mp (hS r r hr hr hxr hxr)
   have:=all y hy e1
   exact cnt_pos.mpr ⟨y,hy,this,this⟩
  ·obtain ⟨y,hy,e1,e2⟩:=cnt_pos.mp (hS r r' hr hr' hxr hx')
   exact cnt_pos.mpr ⟨y,hy,all y hy e1,e2⟩
 ·have all:∀ y∈rs,ch y q=121:=λy hy=>by
   rcases bin y hy with b | b
   ·exact b
   ·exact absurd (cnt_pos.mpr ⟨y,hy,b,b⟩) h1
  refine ⟨?_,λr' hr' hx'=>?_⟩
  ·obtain ⟨y,hy⟩:=List.exists_mem_of_ne_nil rs h0
   exact cnt_pos.mpr ⟨y,hy,all y hy,all y hy⟩
  ·obtain ⟨y,hy,e1,e2⟩:=cnt_pos.mp (hS r' r' hr' hr' hx' hx')
   exact cnt_pos.mpr ⟨y,hy,all y hy,e1⟩
theorem fit_set {rs:List Str}{n:Nat}{x:Str}{q a:Nat}(hS:qb9 rs n x)(hq:q < n)(hf:Fits rs n x q a):qb9 rs n (tx n (qu2 x q a)):=by
 intro i j hi hj
 rw [qb8 hi,qb8 hj]
 unfold qu2
 by_cases e1:i=q
 ·rw [if_pos e1]
  by_cases e2:j=q
  ·rw [if_pos e2,e1,e2]; exact λ_ _=>hf.1
  ·rw [if_neg e2,e1]; exact λ_ h=>hf.2 j hj h
 ·rw [if_neg e1]
  by_cases e2:j=q
  ·rw [if_pos e2,e2]
   intro h _
   rw [qa2]
   exact hf.2 i hi h
  ·rw [if_neg e2]; exact λh1 h2=>hS i j hi hj h1 h2
theorem qy1 {rs:List Str}{n:Nat}{x:Str}(h:pgM rs 0 (q71 x n)=[]):qb9 rs n x:=by
 have go:∀ q r,q < n->r < n->q<=r->¬ ch x q=45->¬ ch x r=45->0 < q29 rs q (ch x q) r (ch x r):=λq r hq hr hle nq nr=>by
  cases z:q29 rs q (ch x q) r (ch x r) with
  | succ _=>omega
  | zero =>
   exfalso
   have:qk q r∈pgM rs 0 (q71 x n):=by
    refine List.mem_flatMap.mpr ⟨(q,ch x q),?_,List.mem_flatMap.mpr ⟨(r,ch x r),?_,?_⟩⟩
    ·rw [List.take_length]; exact qf3 hq nq
    ·rw [List.take_length]; exact qf3 hr nr
    ·unfold pgB
     rw [if_pos ⟨hle,z⟩]
     exact List.mem_singleton.mpr rfl
   rw [h] at this
   cases this
 intro q r hq hr nq nr
 by_cases hle:q<=r
 ·exact go q r hq hr hle nq nr
 ·rw [qa2]; exact go r q hr hq (by omega) nr nq
end L2
namespace K19
open PySem L2
open PyProof.Rows (envOfC)
abbrev ql5:Stmt:=top 24
abbrev q97:Stmt:=top 34
abbrev qo4:Stmt:=top 40
abbrev ql9:Stmt:=top 41
abbrev qf7:Stmt:=top 42
def z79 (x:Str)(q:Nat):List Nat:=if ch x q=45 then [q] else []
def qQ4 (x:Str)(n:Nat):List Nat:=(List.range n).flatMap (z79 x)
theorem qv4 (x:Str)(n:Nat):qQ4 x (n + 1)=qQ4 x n ++ z79 x n:=by unfold qQ4; rw [List.range_succ,List.flatMap_append]; simp
theorem qQ3 (x:Str):∀ n,(qQ4 x n).length<=n
 | 0=>by simp [qQ4]
 | n + 1=>by
  rw [qv4,List.length_append]
  have:(z79 x n).length<=1:=by unfold z79; split <;> simp
  have:=qQ3 x n
  omega
theorem opn_mem {x:Str}{n q:Nat}:q∈qQ4 x n↔q < n/\ch x q=45:=by
 constructor
 ·intro h
  obtain ⟨i,hi,h⟩:=List.mem_flatMap.mp h
  unfold z79 at h
  split at h
  ·rename_i z
   rw [List.mem_singleton.mp h]
   exact ⟨List.mem_range.mp hi,z⟩
  ·cases h
 ·rintro ⟨h1,h2⟩
  refine List.mem_flatMap.mpr ⟨q,List.mem_range.mpr h1,?_⟩
  unfold z79
  rw [if_pos h2]
  exact List.mem_singleton.mpr rfl
def vN (q:Nat):V:=.int (q:Nat)
section
variable {P:Program}{w:World}{K:PySem.W.Frag}{mg:Str->Option Value}{base:Heap}{C fi fa ft fy fm fc:Addr}{gi ga gt gy gm gc:FuncData}
def spOpen:Sp:=λvs H Q _=>∃(x:Str) (n:Nat),vs=[.str x]/\x.length=n/\n<=12/\∀ p H',H p=none->Same H H'->H' p=some (.lst ((qQ4 x n).map vN))->Q (.ref p) H'
theorem sc_open:FnScope ["pattern"] ["pattern"] (q02 qo4):=⟨rfl,rfl,rfl,by decide +kernel,rfl,by decide +kernel,by decide +kernel⟩
theorem ok_open {f:Addr}{fd:FuncData}(D:Df K mg "open_places" qo4 ["pattern"] f fd) (M:Gm mg):FnOk P w K mg base (CXE P w) 1 f fd ["pattern"] spOpen:=by
 refine D.F.okN sc_open (λvs H Q E h=>?_) (λcdv A outer s H vs Q E hr h=>?_)
 ·obtain ⟨x,n,rfl,_⟩:=h
  rfl
 ·obtain ⟨x,n,rfl,hx,n12,k⟩:=h
  refine ⟨_,q05 (q13 (q38 (g:=qM3 K 2 (qa1 (q81 0) (qa1 (q81 1) qM4))) (N':=["question", "sign"]) (fm:=[none,none]) rfl ⟨rfl,by decide +kernel,by decide +kernel,rfl,rfl,rfl⟩
    (qu9 (by rfl) M.enum (q00 (pv 0) q03))
    (λ_ _ _ _=>q64 rfl (q17 (q09 (i:=0) qG5 rfl (Or.inl rfl)) (q17 (q09 (i:=1) qG5 rfl (Or.inl rfl)) q44)))
    (λ_ _ _ _=>q86 (q11 q58 (pv 1) q15 (q14 _)))
    (λ_ _ _ _=>pv 0))),?_⟩
  refine ⟨_,rfl,x,rfl,λp hp=>?_⟩
  refine qI4 (λi σ H2=>∃ v0 v1,σ=[v0,v1]/\Same H H2/\H2 p=some (.lst ((qQ4 x i).map vN))) ⟨none,none,rfl,Same.new hp,q01⟩ ?_ ?_
  ·rintro i T σ H2 hi hT ⟨v0,v1,rfl,s2,e2⟩
   rw [hx] at hi
   have sT:=Same.new (o:=.tup [.int i,sg x i]) hT
   refine ⟨T,_,rfl,SqT.of q01,rfl,_,_,rfl,_,_,rfl,rfl,?_⟩
   refine ⟨_,rfl,rfl,_,rfl,qd4 (λz=>?_) (λz=>?_)⟩
   ·have z:decide (s1 (ch x i)=s1 45)=true:=z
    rw [qj1] at z
    have z:ch x i=45:=by simpa using z
    refine ⟨_,rfl,_,sT _ _ e2,?_,_,_,rfl,Same.grow hp (s2.trans' sT),?_⟩
    ·rw [List.length_map]
     have:=qQ3 x i
     exact Nat.lt_of_le_of_lt (show _<=12 by omega) (by decide)
    ·rw [q01,qv4,List.map_append]
     unfold z79
     rw [if_pos z]
     rfl
   ·have z:¬ decide (s1 (ch x i)=s1 45)=true:=z
    rw [qj1] at z
    have z:¬ ch x i=45:=by simpa using z
    refine ⟨_,_,rfl,s2.trans' sT,?_⟩
    rw [qv4]
    unfold z79
    rw [if_neg z,List.append_nil]
    exact sT _ _ e2
  ·rintro σ H2 ⟨v0,v1,rfl,s2,e2⟩
   rw [hx] at e2
   exact k p H2 hp s2 e2
def qO1 (C:Addr):Sp:=λvs H Q _=>∃(t dx kp bt:Addr) (n m:Nat) (rs:List Str) (x:Str) (q a:Nat),vs=[.ref t,.str x,.int q,s1 a]/\TabAt C H t dx kp bt n m rs/\Pat n x/\n<=12/\q < n/\qM1 a/\∀(b:Bool) H',(b=true↔Fits rs n x q a)->Same H H'->Q (.bl b) H'
abbrev Nft:List Str:=["table", "pattern", "question", "sign", "given"]
abbrev Pft:List Str:=["table", "pattern", "question", "sign"]
theorem sc_fits:FnScope Nft Pft (q02 ql9):=⟨rfl,rfl,rfl,by decide +kernel,rfl,by decide +kernel,by decide +kernel⟩
abbrev Nfc:List Str:=["r", "b", "table", "question", "sign"]
theorem nd_fc:Nfc.Nodup:=by decide +kernel
def fitB (rs:List Str)(q a:Nat)(p:Nat×Nat):Bool:=decide (0 < q29 rs q a p.1 p.2)
theorem fit_all (rs:List Str)(n:Nat)(x:Str)(q a:Nat)(hq:q < n):((q71 x n ++ [(q,a)]).map (fitB rs q a)).all id=true↔Fits rs n x q a:=by
 rw [List.all_eq_true]
 constructor
 ·intro h
  refine ⟨of_decide_eq_true (h _ (List.mem_map.mpr ⟨(q,a),List.mem_append_right _ (List.mem_singleton.mpr rfl),rfl⟩)),λr hr hx=>?_⟩
  exact of_decide_eq_true (h _ (List.mem_map.mpr ⟨(r,ch x r),List.mem_append_left _ (qf3 hr hx),rfl⟩))
 ·rintro ⟨h1,h2⟩ b hb
  obtain ⟨p,hp,rfl⟩:=List.mem_map.mp hb
  refine decide_eq_true ?_
  rcases List.mem_append.mp hp with hp | hp
  ·obtain ⟨e1,e2,e3⟩:=qa9 hp
   rw [e2]
   exact h2 p.1 e1 (by rw [<- e2]; exact e3)
  ·rw [List.mem_singleton.mp hp]; exact h1
theorem ok_fits {f fn:Addr}{fd gn:FuncData}(D:Df K mg "fits" ql9 Pft f fd) (Dn:Df K mg "answers" qu3 ["pattern"] fn gn) (T:Tb K mg C fi fa ft fy fm fc gi ga gt gy gm gc) (Gc:FnOk P w K mg base (CXE P w) 3 fc gc Ptc (qa4 C)) (B:Bt mg) (M:Gm mg):FnOk P w K mg base (CXE P w) 4 f fd Pft (qO1 C):=by
 refine D.F.okN sc_fits (λvs H Q E h=>?_) (λcdv A outer s H vs Q E hr h=>?_)
 ·obtain ⟨t,dx,kp,bt,n,m,rs,x,q,a,rfl,_⟩:=h
  rfl
 ·obtain ⟨t,dx,kp,bt,n,m,rs,x,q,a,rfl,tab,hx,n12,hq,ha,k⟩:=h
  refine ⟨_,q04 (q18 (i:=4) sc_fits.nd rfl (Or.inl rfl) (q24 qz6 (q23 Dn (qR4 Dn M) (hr.mono (by decide)) q19 (q00 (pv 1) q03)) (q42 (q00 (q54 (q00 (pv 2) (q00 (pv 3) q03))) q03))))
   (q05 (q13 (q12 (q90 rfl) (by rfl) B.all (by rfl) (q00 (q38 (g:=qM3 K 2 (qa1 (q81 0) (qa1 (q81 1) qM4))) (N':=Nfc) (fm:=[none,none,some 0,some 2,some 3]) rfl ⟨rfl,by decide +kernel,by decide +kernel,rfl,rfl,rfl⟩
    (q27 (pv 4)) (λ_ _ _ _=>q64 rfl (q17 (q09 (i:=0) nd_fc rfl (Or.inl rfl)) (q17 (q09 (i:=1) nd_fc rfl (Or.inl rfl)) q44))) (λ_ _ _ _=>q35)
    (λ_ _ _ _=>q50 qJ8 (q87 (pv 2) T.cl T.mc Gc hr T.bc .nil q19 (q00 (pv 3) (q00 (pv 4) (q00 (pv 0) (q00 (pv 1) q03))))) q06 (q14 _))) q03)))),?_⟩
  refine ⟨_,rfl,x,n,rfl,hx.len,n12,λg H1 hg a1=>?_⟩
  obtain ⟨s1',grs,eg,tg⟩:=a1
  refine ⟨_,rfl,_,rfl,q22 (show 2<=100 by decide),λT1 hT1=>⟨q22 (show 1<=100 by decide),λl1 hl1=>?_⟩⟩
  have sT:=Same.new (o:=.tup [.int q,s1 a]) hT1
  have sl:=Same.new (o:=.lst [.ref T1]) hl1
  have s3:=sT.trans' sl
  have gl:=qd7 x n
  refine ⟨g,l1,_,_,rfl,rfl,s3 _ _ eg,q01,?_,λg2 hg2=>?_⟩
  ·rw [List.length_map,tg.1,List.length_map]
   exact q22 (show (q71 x n).length + 1<=100 by omega)
  have s4:=Same.new (o:=.lst (grs.map V.ref ++ [.ref T1])) hg2
  have s14:=s3.trans' s4
  have tk:Tups (upd (upd (upd H1 T1 (.tup [.int q,s1 a])) l1 (.lst [.ref T1])) g2 (.lst (grs.map V.ref ++ [.ref T1]))) (grs ++ [T1]) ((q71 x n ++ [(q,a)]).map skP):=by
   rw [List.map_append]
   exact (tg.mono s14).append (.one (s4 _ _ (sl _ _ q01)))
  have eg2:upd (upd (upd H1 T1 (.tup [.int q,s1 a])) l1 (.lst [.ref T1])) g2 (.lst (grs.map V.ref ++ [.ref T1])) g2=some (.lst ((grs ++ [T1]).map V.ref)):=by
   rw [q01,List.map_append]; rfl
  refine ⟨_,rfl,g2,rfl,⟨_,SqL.of eg2⟩,λp hp=>?_⟩
  have lG:(grs ++ [T1]).length=(q71 x n ++ [(q,a)]).length:=by rw [tk.1,List.length_map]
  have pats:∀ pr∈q71 x n ++ [(q,a)],pr.1 < n/\qM1 pr.2:=λpr h=>by
   rcases List.mem_append.mp h with h | h
   ·exact qF3 hx h
   ·rw [List.mem_singleton.mp h]; exact ⟨hq,ha⟩
  refine q57 (K:=K) (a:=g2) (xs:=(grs ++ [T1]).map V.ref) (λi σ H2=>∃ v0 v1,σ=[v0,v1,some (.ref t),some (.int q),some (s1 a)]/\Same (upd (upd (upd H1 T1 (.tup [.int q,s1 a])) l1 (.lst [.ref T1])) g2 (.lst (grs.map V.ref ++ [.ref T1]))) H2/\H2 p=some (.lst ((((q71 x n ++ [(q,a)]).take i).map (fitB rs q a)).map V.bl)))
   ⟨none,none,rfl,Same.new hp,q01⟩ (λi σ H2 _ ⟨_,_,_,s2,_⟩=>SqL.of (s2 _ _ eg2)) ?_ ?_
  ·rintro i y σ H2 hi ⟨v0,v1,rfl,s2,e2⟩
   obtain ⟨r1,k1,rfl,ek,er⟩:=(tk.mono s2).item hi
   rw [List.getElem?_map] at ek
   cases z:(q71 x n ++ [(q,a)])[i]? with
   | none=>rw [z] at ek; cases ek
   | some pr =>
    rw [z] at ek
    cases ek
    obtain ⟨p1,p2⟩:=pats pr (List.mem_of_getElem? z)
    have tab2:=tab.mono (s1'.trans' (s14.trans' s2))
    refine qe1 er ?_
    refine ⟨_,rfl,t,dx,_,rfl,tab2.ins,rfl,_,rfl,_,rfl,_,rfl,_,rfl,t,dx,kp,bt,n,m,rs,q,a,pr.1,pr.2,rfl,tab2,hq,p1,ha,p2,λH6 s6=>?_⟩
    refine ⟨_,_,rfl,rfl,_,s6 _ _ e2,?_,_,_,rfl,Same.grow hp (s2.trans' s6),?_⟩
    ·rw [List.length_map,List.length_map,List.length_take,List.length_append]
     exact Nat.lt_of_le_of_lt (show _<=13 by show min i ((q71 x n).length + 1)<=13; omega) (by decide)
    ·rw [q01,List.take_add_one,z,List.map_append,List.map_append]
     have e:fitB rs q a pr=decide ((0:Int) < (q29 rs q a pr.1 pr.2:Nat)):=by
      unfold fitB
      exact decide_eq_decide.mpr ⟨λh=>by omega,λh=>by omega⟩
     show some (HO.lst (_ ++ [V.bl (decide ((0:Int) < (q29 rs q a pr.1 pr.2:Nat)))]))=some (HO.lst (_ ++ [V.bl (fitB rs q a pr)]))
     rw [e]
  ·rintro σ H2 ⟨v0,v1,rfl,s2,e2⟩
   rw [List.length_map,lG,List.take_length] at e2
   exact ⟨p,_,rfl,SqL.of e2,k _ H2 (fit_all rs n x q a hq) (s1'.trans' (s14.trans' s2))⟩
def spWith:Sp:=λvs H Q _=>∃(x:Str) (n q a:Nat),vs=[.str x,.int q,s1 a]/\x.length=n/\q < n/\n<=100/\Q (.str (tx n (qu2 x q a))) H
abbrev Pwi:List Str:=["pattern", "question", "sign"]
theorem sc_with:FnScope Pwi Pwi (q02 ql5):=⟨rfl,rfl,rfl,by decide +kernel,rfl,by decide +kernel,by decide +kernel⟩
theorem qQ8 {f:Addr}{fd:FuncData}(D:Df K mg "with_answer" ql5 Pwi f fd):FnOk P w K mg base (CXE P w) 1 f fd Pwi spWith:=by
 refine D.F.okN sc_with (λvs H Q E h=>?_) (λcdv A outer s H vs Q E hr h=>?_)
 ·obtain ⟨x,n,q,a,rfl,_⟩:=h
  rfl
 ·obtain ⟨x,n,q,a,rfl,hx,hq,hn,k⟩:=h
  refine ⟨_,q05 (q13 (q24 q77 (q24 q77 (q56 qu1 (pv 0) q76 (q75 (pv 1))) (pv 2)) (q56 qu1 (pv 0) (q75 (q24 q46 (pv 1) q06)) q76))),?_⟩
  have sz:x.length<=sizeLine:=by rw [hx]; exact q22 hn
  have l1:=Txt.slice_le x none (some (q:Int))
  have l2:=Txt.slice_le x (some ((q:Int) + 1)) none
  refine ⟨_,rfl,_,rfl,_,rfl,_,rfl,sz,_,rfl,_,_,rfl,rfl,?_,_,rfl,_,rfl,_,_,rfl,rfl,_,rfl,_,rfl,sz,_,_,rfl,rfl,?_,?_⟩
  ·show (Txt.slice x none (some (q:Int))).length + 1<=sizeLine
   rw [sizeLine_eq]; omega
  ·have e:(Txt.slice x none (some (q:Int)) ++ (⟨#[a]⟩:Str)).length=(Txt.slice x none (some (q:Int))).length + 1:=by
    show ((Txt.slice x none (some (q:Int))).cps ++ #[a]).size=_
    rw [Array.size_append]; rfl
   show (Txt.slice x none (some (q:Int)) ++ (⟨#[a]⟩:Str)).length + (Txt.slice x (some ((q:Int) + 1)) none).length<=sizeLine
   rw [e,sizeLine_eq]; omega
  ·have:=qM6 (a:=a) hx hq
   rw [<- this] at k
   exact k
def z71 (C:Addr):Sp:=λvs H Q _=>∃(t dx kp bt:Addr) (n m:Nat) (rs:List Str) (x:Str),vs=[.ref t,.str x]/\TabAt C H t dx kp bt n m rs/\Pat n x/\n<=12/\qb9 rs n x/\rs≠[]/\(∀ y∈rs,Row n y)/\∀ z H',Row n z->qX5 rs n z->(∀ i,i < n->¬ ch x i=45->ch z i=ch x i)->Same H H'->Q (.str z) H'
abbrev Nfi:List Str:=["table", "pattern", "told", "question", "sign"]
theorem sc_fill:FnScope Nfi Pgp (q02 qf7):=⟨rfl,rfl,rfl,by decide +kernel,rfl,by decide +kernel,by decide +kernel⟩
def tSg (K:PySem.W.Frag)(C:Addr):TS:=λD σ H=>∃(t dx kp bt:Addr) (n m:Nat) (rs:List Str) (x z:Str) (q:Nat) (v4:Option V),σ=[some (.ref t),some (.str x),some (.str z),some (.int q),v4]/\TabAt C H t dx kp bt n m rs/\Pat n z/\n<=12/\qb9 rs n z/\rs≠[]/\(∀ y∈rs,Row n y)/\q < n /\
 ∀ a H',qM1 a->Fits rs n z q a->Same H H'->D.nx [some (.ref t),some (.str x),some (.str z),some (.int q),some (s1 a)] H'
abbrev b_fill (j:Nat):Stmt:=(q08 qf7).getD j (.Pass ⟨0,0,0,0⟩)
def forB:Stmt->List Stmt
 | .For _ _ b _ _=>b
 | _=>[]
abbrev c_fill (j:Nat):Stmt:=(forB (b_fill 1)).getD j (.Pass ⟨0,0,0,0⟩)
theorem fill_sg {f ff:Addr}{gf:FuncData}{cdv:Value}{A:Around}{outer:List Env}{s:Shared}{H0:Hp}{E0':XK}(Df':Df K mg "fits" ql9 Pft ff gf) (Gf:FnOk P w K mg base (CXE P w) 4 ff gf Pft (qO1 C)) (hr:Room 4 (A.deeper (envOfC "fill" (q02 qf7) s.heap.objs.size f cdv))) :
  PS (qD2 (CXE P w) P w K mg base Nfi "fill" (q02 qf7) f cdv A outer s H0 E0').nox (c_fill 0) (tSg K C):=by
 refine ps_weak (q18 (i:=4) sc_fill.nd rfl (Or.inl rfl) (qd0 (q52 (q23 Df' Gf hr q19 (q00 (pv 0) (q00 (pv 2) (q00 (pv 3) (q00 q15 q03)))))) q15 q15)) ?_
 rintro D σ H ⟨t,dx,kp,bt,n,m,rs,x,z,q,v4,rfl,tab,hz,n12,hS,h0,hrs,hq,k⟩
 refine ⟨_,rfl,_,rfl,_,rfl,t,dx,kp,bt,n,m,rs,z,q,110,rfl,tab,hz,n12,hq,.inr rfl,λb H' hb s'=>⟨_,rfl,?_⟩⟩
 cases b with
 | true=>exact q48 (k 110 H' (.inr rfl) (hb.mp rfl) s')
 | false=>exact q30 (k 121 H' (.inl rfl) (fit_one hS hrs h0 hq (λw=>by have:=hb.mpr w; cases this)) s')
theorem ok_fill {f fo ff fw:Addr}{fd go gf gw:FuncData}(D:Df K mg "fill" qf7 Pgp f fd) (Do:Df K mg "open_places" qo4 ["pattern"] fo go) (Df':Df K mg "fits" ql9 Pft ff gf) (Gf:FnOk P w K mg base (CXE P w) 4 ff gf Pft (qO1 C)) (Dw:Df K mg "with_answer" ql5 Pwi fw gw) (M:Gm mg):FnOk P w K mg base (CXE P w) 5 f fd Pgp (z71 C):=by
 refine D.F.okN sc_fill (λvs H Q E h=>?_) (λcdv A outer s H vs Q E hr h=>?_)
 ·obtain ⟨t,dx,kp,bt,n,m,rs,x,rfl,_⟩:=h
  rfl
 ·obtain ⟨t,dx,kp,bt,n,m,rs,x,rfl,tab,hx,n12,hS,h0,hrs,k⟩:=h
  refine ⟨_,q04 (q18 (i:=2) sc_fill.nd rfl (Or.inl rfl) (pv 1))
   (q04 (q36 PassesOwn.never rfl (q27 (q23 Do (ok_open Do M) (hr.mono (by decide)) q19 (q00 (pv 1) q03))) (q09 (i:=3) sc_fill.nd rfl (Or.inl rfl))
    (q04 (fill_sg Df' Gf hr) (q05 (q18 (i:=2) sc_fill.nd rfl (Or.inl rfl) (q23 Dw (qQ8 Dw) (hr.mono (by decide)) q19 (q00 (pv 2) (q00 (pv 3) (q00 (pv 4) q03))))))))
   (q05 (q13 (pv 2)))),?_⟩
  refine ⟨_,rfl,_,rfl,x,n,rfl,hx.len,n12,λp H1 hp s1' e1=>⟨p,rfl,⟨_,SqL.of e1⟩,?_⟩⟩
  refine q62 (K:=K) (a:=p) (xs:=(qQ4 x n).map vN) (λi σ H2=>∃ v3 v4 z,σ=[some (.ref t),some (.str x),some (.str z),v3,v4]/\Same H1 H2/\Pat n z/\qb9 rs n z/\(∀ j,j < n->¬ ch x j=45->ch z j=ch x j)/\(∀ j∈(qQ4 x n).take i,¬ ch z j=45))
   ⟨none,none,x,rfl,Same.refl _,hx,hS,λ_ _ _=>rfl,λj hj=>by simp at hj⟩ (λi σ H2 _ ⟨_,_,_,_,s2,_⟩=>SqL.of (s2 _ _ e1)) ?_ ?_
  ·rintro i y σ H2 hi ⟨v3,v4,z,rfl,s2,hz,hSz,agr,fl⟩
   rw [List.getElem?_map] at hi
   cases e:(qQ4 x n)[i]? with
   | none=>rw [e] at hi; cases hi
   | some q =>
    rw [e] at hi
    cases hi
    obtain ⟨hq,xq⟩:=opn_mem.mp (List.mem_of_getElem? e)
    refine ⟨t,dx,kp,bt,n,m,rs,x,z,q,v4,rfl,tab.mono (s1'.trans' s2),hz,n12,hSz,h0,hrs,hq,λa H3 ha hf s3=>?_⟩
    refine ⟨_,rfl,_,rfl,_,rfl,z,n,q,a,rfl,hz.len,hq,by omega,?_⟩
    refine ⟨_,_,tx n (qu2 z q a),rfl,s2.trans' s3,⟨ql4 _ _,λj hj=>?_⟩,fit_set hSz hq hf,λj hj hx'=>?_,λj hj=>?_⟩
    ·rw [qb8 hj]
     unfold qu2
     split
     ·unfold qM1 at ha; omega
     ·exact hz.sgn j hj
    ·rw [qb8 hj]
     unfold qu2
     rw [if_neg (λw=>by rw [w] at hx'; exact hx' xq)]
     exact agr j hj hx'
    ·have jn:j < n:=(opn_mem.mp (List.mem_of_mem_take hj)).1
     rw [qb8 jn]
     unfold qu2
     split
     ·unfold qM1 at ha; omega
     ·rename_i ne
      rw [List.take_add_one,e] at hj
      rcases List.mem_append.mp hj with hj | hj
      ·exact fl j hj
      ·exact absurd (List.mem_singleton.mp hj) ne
  ·rintro σ H2 ⟨v3,v4,z,rfl,s2,hz,hSz,agr,fl⟩
   rw [List.length_map,List.take_length] at fl
   have ne:∀ j,j < n->¬ ch z j=45:=λj hj=>by
    by_cases e:ch x j=45
    ·exact fl j (opn_mem.mpr ⟨hj,e⟩)
    ·rw [agr j hj e]; exact e
   have hR:Row n z:=⟨hz.len,λj hj=>by have:=hz.sgn j hj; have:=ne j hj; omega⟩
   exact ⟨_,rfl,k z H2 hR (λq r hq hr=>hSz q r hq hr (ne q hq) (ne r hr)) agr (s1'.trans' s2)⟩
abbrev qc9:Stmt:=top 64
abbrev qc5:Stmt:=top 65
def llB (rs:List Str)(x:Str)(q r:Nat):List (List Key):=if q29 rs q (ch x q) r (ch x r)=0 then [qk q r] else []
def llR (rs:List Str)(x:Str)(n q j:Nat):List (List Key):=qa3 (List.range (n - q)) j λd=>llB rs x q (q + d)
def llA (rs:List Str)(x:Str)(n i:Nat):List (List Key):=qa3 (List.range n) i λq=>llR rs x n q (n - q)
theorem llB_len (rs:List Str)(x:Str)(q r:Nat):(llB rs x q r).length<=1:=by unfold llB; split <;> simp
theorem qS9 (rs:List Str)(x:Str)(n q j:Nat):(llR rs x n q j).length<=j:=by
 have:=q92 (l:=List.range (n - q)) (F:=λd=>llB rs x q (q + d)) (λd=>llB_len rs x q (q + d)) j
 unfold llR
 omega
theorem llA_len (rs:List Str)(x:Str)(n i:Nat):(llA rs x n i).length<=i * n:=q92 (λq=>Nat.le_trans (qS9 rs x n q (n - q)) (Nat.sub_le n q)) i
theorem qG7 {rs:List Str}{x:Str}{n q j:Nat}(h:q + j < n):llR rs x n q (j + 1)=llR rs x n q j ++ llB rs x q (q + j):=q91 (List.getElem?_range (by omega))
theorem z41 {rs:List Str}{x:Str}{n i:Nat}(h:i < n):llA rs x n (i + 1)=llA rs x n i ++ llR rs x n i (n - i):=q91 (List.getElem?_range h)
theorem qn5 {α β:Type}{F G:α->List β}:∀{l:List α},(∀ a∈l,F a=G a)->l.flatMap F=l.flatMap G
 | [],_=>rfl
 | a :: r,h=>by rw [List.flatMap_cons,List.flatMap_cons,h a List.mem_cons_self,qn5 λb hb=>h b (List.mem_cons_of_mem _ hb)]
theorem z92 {α β:Type}(f:α->β):∀ l:List α,l.flatMap (λq=>[f q])=l.map f
 | []=>rfl
 | a :: r=>by rw [List.flatMap_cons,List.map_cons,z92 f r]; rfl
theorem qm6 {α β:Type}(l:List α)(F:α->List β){k:Nat}(h:l.length=k):qa3 l k F=l.flatMap F:=by unfold qa3; rw [<- h,List.take_length]
theorem ans_row {n:Nat}{x:Str}(h:Row n x):q71 x n=(List.range n).map λq=>(q,ch x q):=by
 unfold q71
 rw [<- z92 (λq=>(q,ch x q)) (List.range n)]
 refine qn5 λq hq=>?_
 unfold z59
 have:=h.bin q (List.mem_range.mp hq)
 rw [if_neg (by omega)]
theorem ll_pg {rs:List Str}{n:Nat}{x:Str}(h:Row n x):llA rs x n n=pgM rs 0 (q71 x n):=by
 unfold llA pgM
 rw [qm6 _ _ List.length_range,qm6 _ _ rfl,ans_row h,List.flatMap_map]
 refine qn5 λq hq=>?_
 have hq:=List.mem_range.mp hq
 unfold llR pgA
 rw [qm6 _ _ List.length_range,qm6 _ _ rfl,List.flatMap_map]
 have e:List.range n=List.range q ++ (List.range (n - q)).map (q + ·):=by rw [<- List.range_add]; congr 1; omega
 rw [e,List.flatMap_append,List.flatMap_map]
 have z:(List.range q).flatMap (λr=>pgB rs 0 (q,ch x q) (r,ch x r))=[]:=by
  refine List.flatMap_eq_nil_iff.mpr λr hr=>?_
  have hr:=List.mem_range.mp hr
  unfold pgB
  rw [if_neg (λw=>absurd w.1 (by show ¬ q<=r; omega))]
 rw [z,List.nil_append]
 refine qn5 λd hd=>?_
 unfold llB pgB
 by_cases c:q29 rs q (ch x q) (q + d) (ch x (q + d))=0
 ·rw [if_pos c,if_pos ⟨Nat.le_add_right q d,c⟩]
 ·rw [if_neg c,if_neg (λw=>c w.2)]
def spBears (K:PySem.W.Frag):Sp:=λvs H Q _=>∃(l:Addr) (n:Nat) (rs:List Str) (q a r b:Nat),vs=[.ref l,.int q,s1 a,.int r,s1 b]/\SqL K H l (rs.map V.str)/\(∀ x∈rs,Row n x)/\n<=12/\q < n/\r < n/\Q (.bl (decide (0 < q29 rs q a r b))) H
abbrev Nbe:List Str:=["_law_rows_here", "_law_q", "_law_a", "_law_r", "_law_b", "_law_row"]
abbrev Pbe:List Str:=["_law_rows_here", "_law_q", "_law_a", "_law_r", "_law_b"]
theorem sc_bears:FnScope Nbe Pbe (q02 qc9):=⟨rfl,rfl,rfl,by decide +kernel,rfl,by decide +kernel,by decide +kernel⟩
theorem qa8 {f:Addr}{fd:FuncData}(D:Df K mg "_law_bears" qc9 Pbe f fd):FnOk P w K mg base (CXE P w) 1 f fd Pbe (spBears K):=by
 refine D.F.okN sc_bears (λvs H Q E h=>?_) (λcdv A outer s H vs Q E hr h=>?_)
 ·obtain ⟨l,n,rs,q,a,r,b,rfl,_⟩:=h
  rfl
 ·obtain ⟨l,n,rs,q,a,r,b,rfl,hl,hx,n12,hq,hr',k⟩:=h
  refine ⟨_,q04 (q36 PassesOwn.never rfl (q27 (pv 0)) (q09 (i:=5) sc_bears.nd rfl (Or.inl rfl))
    (q05 (q41 (PW.pt (q72 (q11 q58 (q25 qd9 (pv 5) (pv 1) (λ_ _=>rfl)) (pv 2) (q14 _)) (q53 (q11 q58 (q25 qd9 (pv 5) (pv 3) (λ_ _=>rfl)) (pv 4) (q14 _))))) (q05 (q13 qk2)) q21)))
   (q05 (q13 qk2)),?_⟩
  refine ⟨_,rfl,l,rfl,⟨_,hl⟩,q62 (K:=K) (a:=l) (xs:=rs.map V.str) (λi σ H2=>∃ v,σ=[some (.ref l),some (.int q),some (s1 a),some (.int r),some (s1 b),v]/\H2=H/\∀ x∈rs.take i,¬ (ch x q=a/\ch x r=b))
   ⟨none,rfl,rfl,λx hx=>by simp at hx⟩ (λi σ H2 _ ⟨_,_,z,_⟩=>by rw [z]; exact hl) ?_ ?_⟩
  ·rintro i y σ H2 hi ⟨v,rfl,rfl,no⟩
   rw [List.getElem?_map] at hi
   cases z:rs[i]? with
   | none=>rw [z] at hi; cases hi
   | some x =>
    rw [z] at hi
    cases hi
    have hrow:=hx x (List.mem_of_getElem? z)
    have sz:x.length<=sizeLine:=by rw [hrow.len]; exact q22 (by omega)
    have next:¬ (ch x q=a/\ch x r=b)->∃ v,[some (V.ref l),some (V.int q),some (s1 a),some (V.int r),some (s1 b),some (V.str x)]=[some (.ref l),some (.int q),some (s1 a),some (.int r),some (s1 b),v]/\H2=H2/\∀ x∈rs.take (i + 1),¬ (ch x q=a/\ch x r=b):=λhn=>⟨_,rfl,rfl,λx' hx'=>by
     rw [List.take_add_one,z] at hx'
     rcases List.mem_append.mp hx' with h | h
     ·exact no x' h
     ·rw [List.mem_singleton.mp h]; exact hn⟩
    refine ⟨_,rfl,_,rfl,_,_,_,rfl,rfl,sz,qW2 hrow hq,_,rfl,rfl,_,rfl,qd4 (λc1=>?_) (λc1=>?_)⟩
    ·have c1:decide (s1 (ch x q)=s1 a)=true:=c1
     rw [qj1] at c1
     have c1:ch x q=a:=by simpa using c1
     refine ⟨_,rfl,_,rfl,_,_,_,rfl,rfl,sz,qW2 hrow hr',_,rfl,rfl,_,rfl,qd4 (λc2=>?_) (λc2=>?_)⟩
     ·have c2:decide (s1 (ch x r)=s1 b)=true:=c2
      rw [qj1] at c2
      have c2:ch x r=b:=by simpa using c2
      rw [decide_eq_true (cnt_pos.mpr ⟨x,List.mem_of_getElem? z,c1,c2⟩)] at k
      exact k
     ·have c2:¬ decide (s1 (ch x r)=s1 b)=true:=c2
      rw [qj1] at c2
      exact next λw=>c2 (by rw [w.2]; exact decide_eq_true rfl)
    ·have c1:¬ decide (s1 (ch x q)=s1 a)=true:=c1
     rw [qj1] at c1
     exact q30 (next λw=>c1 (by rw [w.1]; exact decide_eq_true rfl))
  ·rintro σ H2 ⟨v,rfl,rfl,no⟩
   rw [List.length_map,List.take_length] at no
   rw [decide_eq_false (λw=>by obtain ⟨x,hx',e⟩:=cnt_pos.mp w; exact no x hx' e)] at k
   exact k
def qE9 (K:PySem.W.Frag):Sp:=λvs H Q _=>∃(l:Addr) (n:Nat) (rs:List Str) (x:Str),vs=[.ref l,.str x]/\SqL K H l (rs.map V.str)/\(∀ x∈rs,Row n x)/\n<=12/\Row n x/\∀ p H',H p=none->Acc H p H' (pgM rs 0 (q71 x n))->Q (.ref p) H'
abbrev Nll:List Str:=["_law_rows_here", "_law_row", "_law_found", "_law_q", "_law_r"]
abbrev Pll:List Str:=["_law_rows_here", "_law_row"]
theorem sc_llacks:FnScope Nll Pll (q02 qc5):=⟨rfl,rfl,rfl,by decide +kernel,rfl,by decide +kernel,by decide +kernel⟩
theorem qR0 {f fb:Addr}{fd gb:FuncData}(D:Df K mg "_law_lacks" qc5 Pll f fd) (Db:Df K mg "_law_bears" qc9 Pbe fb gb) (B:Bt mg):FnOk P w K mg base (CXE P w) 2 f fd Pll (qE9 K):=by
 refine D.F.okN sc_llacks (λvs H Q E h=>?_) (λcdv A outer s H vs Q E hr h=>?_)
 ·obtain ⟨l,n,rs,x,rfl,_⟩:=h
  rfl
 ·obtain ⟨l,n,rs,x,rfl,hl,hrs,n12,hx,k⟩:=h
  refine ⟨_,q04 (q18 (i:=2) sc_llacks.nd rfl (Or.inl rfl) (q42 q03))
   (q04 (q36 PassesOwn.never rfl (q31 (by rfl) B.range (q00 (q12 q83 (by rfl) B.len PySem.boot_len (q00 (pv 1) q03)) q03)) (q09 (i:=3) sc_llacks.nd rfl (Or.inl rfl))
    (q05 (q36 PassesOwn.never rfl (qp2 (by rfl) B.range (q00 (pv 3) (q00 (q12 q83 (by rfl) B.len PySem.boot_len (q00 (pv 1) q03)) q03))) (q09 (i:=4) sc_llacks.nd rfl (Or.inl rfl))
     (q05 (q41 (qa7 (q52 (q23 Db (qa8 Db) hr q19 (q00 (pv 0) (q00 (pv 3) (q00 (q25 qd9 (pv 1) (pv 3) (λ_ _=>rfl)) (q00 (pv 4) (q00 (q25 qd9 (pv 1) (pv 4) (λ_ _=>rfl)) q03))))))))
      (q05 (q26 (qk1 PySem.F.plainAttrs_list PySem.F.slot_list_append PySem.F.type_list_append q45 (pv 2) (q00 (q54 (q00 (pv 3) (q00 (pv 4) q03))) q03)))) q21)))))
   (q05 (q13 (pv 2)))),?_⟩
  refine ⟨Nat.zero_le _,λp hp=>?_⟩
  have sz:x.length<=sizeLine:=by rw [hx.len]; exact q22 (by omega)
  refine ⟨_,rfl,_,rfl,sz,_,rfl,by omega,by rw [hx.len]; omega,?_⟩
  have en:((x.length:Nat):Int).toNat=n:=by rw [hx.len]; omega
  rw [en]
  refine q49 (λi σ H2=>∃ v3 v4,σ=[some (.ref l),some (.str x),some (.ref p),v3,v4]/\Acc H p H2 (llA rs x n i)) ⟨none,none,rfl,Same.new hp,[],q01,.nil⟩ ?_ ?_
  ·rintro i σ H2 hi ⟨v3,v4,rfl,a2⟩
   rw [Int.zero_add]
   refine ⟨_,rfl,_,rfl,_,rfl,sz,_,_,rfl,⟨by omega,by omega,by omega,by rw [hx.len]; omega⟩,?_⟩
   have en2:(((x.length:Nat):Int) - (i:Int)).toNat=n - i:=by rw [hx.len]; omega
   rw [en2]
   refine q49 (λj σ H3=>∃ v4,σ=[some (.ref l),some (.str x),some (.ref p),some (.int i),v4]/\Acc H p H3 (llA rs x n i ++ llR rs x n i j)) ⟨_,rfl,by rw [show llR rs x n i 0=[] from rfl,List.append_nil]; exact a2⟩ ?_ ?_
   ·rintro j σ H3 hj ⟨v4,rfl,a3⟩
    have ej:(i:Int) + (j:Int)=((i + j:Nat):Int):=by omega
    rw [ej]
    have ijn:i + j < n:=by omega
    refine ⟨_,rfl,_,rfl,_,rfl,_,rfl,_,_,_,rfl,rfl,sz,qW2 hx hi,_,rfl,_,rfl,_,rfl,_,_,_,rfl,rfl,sz,qW2 hx ijn,?_⟩
    refine ⟨l,n,rs,i,ch x i,i + j,ch x (i + j),rfl,a3.same.seq hl,hrs,n12,hi,ijn,_,rfl,?_⟩
    by_cases c:q29 rs i (ch x i) (i + j) (ch x (i + j))=0
    ·have e:llB rs x i (i + j)=[qk i (i + j)]:=if_pos c
     rw [decide_eq_false (show ¬ 0 < q29 rs i (ch x i) (i + j) (ch x (i + j)) by omega)]
     obtain ⟨rs',e3,t3⟩:=a3.at_
     refine q48 ⟨_,rfl,.inl ⟨rfl,_,SqL.of e3⟩,_,rfl,_,rfl,q22 (show 2<=100 by decide),λT hT=>?_⟩
     obtain ⟨ys,ey,yl,a4⟩:=a3.put (k:=qk i (i + j)) hp (Same.refl _) hT
     refine ⟨p,_,_,rfl,rfl,ey,?_,_,rfl,?_⟩
     ·have h1:=llA_len rs x n i
      have h2:=qS9 rs x n i j
      rw [yl,List.length_append]
      have h3:i * n<=12 * 12:=Nat.mul_le_mul (by omega) n12
      exact Nat.lt_of_le_of_lt (show _<=200 by omega) (by decide)
     ·rw [qG7 ijn,e,<- List.append_assoc]
      exact a4
    ·have e:llB rs x i (i + j)=[]:=if_neg c
     rw [decide_eq_true (show 0 < q29 rs i (ch x i) (i + j) (ch x (i + j)) by omega)]
     refine q30 ⟨_,rfl,?_⟩
     rw [qG7 ijn,e,List.append_nil]
     exact a3
   ·rintro σ H3 ⟨v4,rfl,a3⟩
    refine ⟨_,_,rfl,?_⟩
    rw [z41 hi]
    exact a3
  ·rintro σ H2 ⟨v3,v4,rfl,a2⟩
   refine ⟨_,rfl,k p H2 hp ?_⟩
   rw [<- ll_pg hx]
   exact a2
end
end K19
namespace L2
open PySem PySem.Spec PyProof.Rows
def z58 (h:Heap)(H:Hp)(st:List Env):Heap:=PySem.W.hideAll h (trk h H ++ frs st)
theorem qx1 {h:Heap}{H:Hp}{st:List Env}{b:Addr}{o:Obj}(e:h.get? b=some o)(n:H b=none)(hf:b∉frs st):(z58 h H st).get? b=some o :=
 PySem.W.hideAll_get _ e λhm=>by
  rcases List.mem_append.mp hm with hm | hm
  ·have q:(H b).isSome=true:=(List.mem_filter.mp hm).2
   rw [n] at q; simp at q
  ·exact hf hm
theorem of_bigB {h:Heap}{H:Hp}{st:List Env}{b:Addr}{o:Obj}(e:(z58 h H st).get? b=some o):h.get? b=some o/\H b=none:=by
 have e':h.get? b=some o:=PySem.W.of_hideAll _ e
 refine ⟨e',?_⟩
 cases q:H b with
 | none=>rfl
 | some x =>
  have hm:b∈trk h H:=List.mem_filter.mpr ⟨List.mem_range.mpr (Heap.lt_size e'),by simp [q]⟩
  have z:(z58 h H st).get? b=none:=PySem.W.hideAll_none _ (List.mem_append_left _ hm)
  rw [z] at e; cases e
theorem Mod.keeps {K:PySem.W.Frag}{mg:Str->Option Value}{b1 b2:Heap}(m:Mod K mg b1)(k:∀ b o,b1.get? b=some o->b2.get? b=some o):Mod K mg b2 :=
 ⟨m.kin.keeps k,m.glob.keeps k,let ⟨mb,h1,h2⟩:=m.blt; ⟨mb,h1.keeps k,h2⟩,m.nolimit.keeps k⟩
theorem Env0.stays {P:Program}{w:World}{K:PySem.W.Frag}{mg:Str->Option Value}{base:Heap}{A:Around}{outer:List Env}{s:Shared}{H:Hp}(e:Env0 P w K mg base A outer s H){b:Addr}{o:Obj}(q:base.get? b=some o):(z58 s.heap H outer).get? b=some o :=
 qx1 (e.bs b o q).1 (e.bs b o q).2 λhm=>by
  have:=(e.funs.mem hm).1
  rw [q] at this; cases this
theorem Env0.big {P:Program}{w:World}{K:PySem.W.Frag}{mg:Str->Option Value}{base:Heap}{A:Around}{outer:List Env}{s:Shared}{H:Hp}(e:Env0 P w K mg base A outer s H):Env0 P w K mg (z58 s.heap H outer) A outer s H :=
 ⟨e.frames,e.mod.keeps λ_ _ q=>e.stays q,λ_ _ q=>of_bigB q,Nat.le_of_eq (PySem.W.hideAll_size _ _),PySem.W.funFrames_hide e.funs λenv he a ha=>List.mem_append_right _ (List.mem_filterMap.mpr ⟨env,he,ha⟩),e.frf,e.hok,e.bare⟩
def CodeE (c:Addr)(q:Str):HO:=.ext λh=>h.CodeRec (.ref c) q
theorem CodeE.ok {P:Program}{w:World}{H:Hp}{h:Heap}{c:Addr}{q:Str}(r:h.CodeRec (.ref c) q):ObjOk P w H h c (CodeE c q):=by
 refine ⟨r,?_,λh1 h2 r1 k=>?_⟩
 ·obtain ⟨_,o,_,_,e,ho,_⟩:=r
  cases e
  exact ⟨o,ho⟩
 ·obtain ⟨_,o,vs,t,e,ho,r⟩:=r1
  cases e
  exact ⟨c,o,vs,t,rfl,k o ho,r⟩
structure TabOk (H:Hp) (P:Addr) (q:Str):Prop where
 ex:∃ ps,H P=some (.tbl ps)/\TriplesOk ps.toList/\∀ pos cv,codeAmong pos ps.toList=some cv->∃ c,cv=.ref c/\c≠P/\H c=some (CodeE c q)
theorem TabOk.same {H H':Hp}{P:Addr}{q:Str}(t:TabOk H P q)(e:Same H H'):TabOk H' P q:=by
 obtain ⟨ps,h1,h2,h3⟩:=t
 exact ⟨ps,e _ _ h1,h2,λpos cv z=>let ⟨c,e1,e2,e3⟩:=h3 pos cv z; ⟨c,e1,e2,e _ _ e3⟩⟩
theorem qt3 (pos p2:Pos)(c v:Value):∀(l:List Value),TriplesOk l->codeAmong pos (l ++ [rawInt p2.line,rawInt p2.col,c])=some v->codeAmong pos l=some v∨v=c
 | [],_,h=>by
  rw [List.nil_append] at h
  unfold rawInt at h
  simp only [codeAmong] at h
  split at h
  ·exact .inr (Option.some.inj h).symm
  ·cases h
 | .int a _ :: .int b _ :: x :: r,ok,h=>by
  simp only [List.cons_append,codeAmong] at h ⊢
  split at h
  ·rename_i z
   rw [if_pos z]
   exact .inl h
  ·rename_i z
   rw [if_neg z]
   exact qt3 pos p2 c v r ok h
def SameP (P:Addr)(H H':Hp):Prop:=∀ b o,b≠P->H b=some o->H' b=some o
theorem SameP.refl (P:Addr)(H:Hp):SameP P H H:=λ_ _ _ e=>e
structure BMain (mg:Str->Option Value) (base:Heap):Prop where
 ex:∃ bm ob,mg "__builtins__" = some (.ref bm)/\bm≠builtinsNs/\base.get? bm=some ob/\ob.cls=.type "module" /\ ob.dict=some builtinsNs/\ob.data=.plain
abbrev qH0 (qual:Str)(params:Arguments)(body:Expr)(scope:Scope)(cl:List (Str×Addr))(pm:Value)(c:Addr)(ctv:Value):Obj:=PySem.W.kla_obj "<lambda>" qual params body scope cl pm c ctv
section
variable {X:Cx}{pins:List (Addr×Obj)}{σ:St}{H:Hp}{s:Shared}
theorem Inv.notStack (I:Inv X pins σ H s){b:Addr}(h:s.heap.objs.size<=b):b∉frs X.stack:=λhm=>by
 obtain ⟨_,o,ho,_⟩:=I.stack.mem hm
 exact absurd (Nat.lt_of_lt_of_le (Heap.lt_size ho) h) (Nat.lt_irrefl _)
theorem z42 {params:Arguments}{body:Expr}{scope:Scope}{pos:Pos}{c P:Addr}{cl:List (Str×Addr)}{Q:Value->Shared->Prop}(I:Inv X pins σ H s)(hdef:defaultsOf params X.env=([],[]))(hcl:closureFor scope X.env=pure cl)(hcode:X.env.code=.ref c)
  (C:PySem.W.CodeHd X.base c P) (B:BMain X.mg X.base) (T:TabOk H P (X.env.qual ++ "<lambda>"))
  (h:∀(f c':Addr) (ctv:Value) (H1:Hp) (s1:Shared),Inv X pins σ H1 s1->s1.heap.get? f=some (qH0 (X.env.qual ++ "<lambda>") params body scope cl ((X.mg "__name__").getD .none) c' ctv)->H1 f=none->f∉frs X.stack ->
   H1 c'=some (CodeE c' (X.env.qual ++ "<lambda>"))->TabOk H1 P (X.env.qual ++ "<lambda>")->SameP P H H1->Q (.ref f) s1):wpAny (model X.prog X.w) X.A (eval (.Lambda params body scope pos) X.env) Q X.xe s:=by
 refine PySem.W.kla_eval hdef ?_
 obtain ⟨ps,hT,tr,hcs⟩:=T.ex
 have hP:s.heap.get? P=some (PySem.W.tabObj ps):=I.hok P _ hT
 have hg:=I.ok.mod.glob.keeps I.bk
 have nG:mainGlobals≠P:=λz=>by
  obtain ⟨o,es,ep,e,_⟩:=I.ok.mod.glob
  have:=(I.bs _ _ e).2
  rw [z,hT] at this; cases this
 obtain ⟨bm,ob,b1,b2,b3,b4,b5,b6⟩:=B.ex
 have nP:bm≠P:=λz=>by
  have:=(I.bs _ _ b3).2
  rw [z,hT] at this; cases this
 have nM:bm≠mainGlobals:=λz=>by
  obtain ⟨o,es,ep,e,hd,_⟩:=I.ok.mod.glob
  rw [z,e] at b3; cases b3; rw [hd] at b6; cases b6
 have hB:s.heap.BuiltinsAt X.mg P:=⟨bm,ob,b1,b2,nM,nP,I.bk _ _ b3,b4,b5,b6⟩
 cases hf:codeAmong pos ps.toList with
 | some cv =>
  obtain ⟨c',rfl,ne,hc'⟩:=hcs pos cv hf
  refine PySem.W.kla_makeFunctionHit (mg:=X.mg) hcl I.ok.glob hg hcode (C.keeps I.bk) hP tr hf hB λctv h' tk hk hsz=>?_
  have k2:∀ b o,s.heap.get? b=some o->(h'.push (qH0 (X.env.qual ++ "<lambda>") params body scope cl ((X.mg "__name__").getD .none) c' ctv)).get? b=some o:=λb o e=>Heap.get?_push_of_some _ (hk b o e)
  have hfr:H h'.objs.size=none:=I.hok.fresh hsz
  exact h _ c' ctv H _ (I.kept k2) (Heap.get?_push_size _ rfl) hfr (I.notStack hsz) hc' T (SameP.refl P H)
 | none =>
  refine PySem.W.kla_makeFunction (mg:=X.mg) hcl I.ok.glob hg hcode (C.keeps I.bk) hP tr hf nG hB λc' ctv h' tk hx hge hlt hrec htb=>?_
  generalize hO:PySem.W.kla_obj "<lambda>" (X.env.qual ++ "<lambda>") params body scope cl ((X.mg "__name__").getD .none) c' ctv=O
  have k2:∀ b o,b≠P->s.heap.get? b=some o->(h'.push O).get? b=some o:=λb o n e=>Heap.get?_push_of_some _ (hx b o n e)
  have hc0:H c'=none:=I.hok.fresh hge
  have nc:c'≠P:=λz=>by rw [z,hT] at hc0; cases hc0
  have hsz:s.heap.objs.size<=h'.objs.size:=Nat.le_of_lt (Nat.lt_of_le_of_lt hge hlt)
  have hf0:H h'.objs.size=none:=I.hok.fresh hsz
  have old:∀ b u,b≠P->H b=some u->upd (upd H P (.tbl (ps ++ #[rawInt pos.line,rawInt pos.col,.ref c']))) c' (CodeE c' (X.env.qual ++ "<lambda>")) b=some u:=λb u n e=>by
   rw [q07 (q16 e hc0),q07 n]; exact e
  have eP:upd (upd H P (.tbl (ps ++ #[rawInt pos.line,rawInt pos.col,.ref c']))) c' (CodeE c' (X.env.qual ++ "<lambda>")) P=some (.tbl (ps ++ #[rawInt pos.line,rawInt pos.col,.ref c'])):=by
   rw [q07 (Ne.symm nc),q01]
  have J:Inv X pins σ (upd (upd H P (.tbl (ps ++ #[rawInt pos.line,rawInt pos.col,.ref c']))) c' (CodeE c' (X.env.qual ++ "<lambda>"))) { s with heap:=h'.push O,toks:=tk }:=by
   refine I.step (g':=s.gens) (d':=s.drawn) (ch:=[]) (λ_ z=>nomatch z) (λb o _ _ _ e n=>k2 b o (λz=>by rw [z,hT] at n; cases n) e) (λb o _ _ _ e n=>⟨o.slots,k2 b o (λz=>by rw [z,hT] at n; cases n) e⟩) (λb o _ e n=>?_) (λb o _ e=>?_)
    (λb xs e=>old b _ (λz=>by rw [z,hT] at e; cases e) e) (λb o u e=>old b _ (λz=>by rw [z,hT] at e; cases e) e) (λb qs e=>?_) (λm hm=>?_) (λb u e=>?_) I.bare
   ·rw [q07 (λz=>absurd (Heap.lt_size e) (by rw [z]; exact Nat.not_lt.mpr hge)),q07 (λz=>by rw [z,hT] at n; cases n)]
    exact n
   ·by_cases z:b=P
    ·subst z; exact ⟨_,Heap.get?_push_of_some _ htb⟩
    ·exact ⟨o,k2 b o z e⟩
   ·by_cases z:b=P
    ·subst z
     rw [hT] at e; cases e
     exact ⟨_,eP⟩
    ·exact ⟨#[],by rw [old b _ z e]; simp⟩
   ·obtain ⟨o,es,ep,e,r⟩:=hm
    exact ⟨o,es,ep,k2 _ o (λz=>by have n:=I.free; rw [z,hT] at n; cases n) e,r⟩
   ·by_cases z1:b=c'
    ·subst z1
     rw [q01] at e; cases e
     refine CodeE.ok ?_
     obtain ⟨c2,o,vs,t,e1,e2,r⟩:=hrec
     exact ⟨c2,o,vs,t,e1,Heap.get?_push_of_some _ e2,r⟩
    ·rw [q07 z1] at e
     by_cases z2:b=P
     ·subst z2
      rw [q01] at e; cases e
      exact Heap.get?_push_of_some _ htb
     ·rw [q07 z2] at e
      refine (I.hok b u e).stay (λd v hd q=>k2 d v ?_ q) (λd q=>old d _ (λz=>by rw [z,hT] at q; cases q) q) λd xs q=>old d _ (λz=>by rw [z,hT] at q; cases q) q
      rcases hd with z | z
      ·rw [z]; exact z2
      ·intro z3; rw [z3,hT] at z; cases z
  refine h _ c' ctv _ _ J (by rw [<- hO]; exact Heap.get?_push_size _ rfl) ?_ (I.notStack hsz) q01 ⟨_,eP,?_,λp2 cv z=>?_⟩ (λb o n e=>old b o n e)
  ·rw [q07 (Nat.ne_of_gt hlt),q07 (λz=>by rw [z,hT] at hf0; cases hf0)]
   exact hf0
  ·have:=TriplesOk_snoc pos.line pos.col (.ref c') ps.toList tr
   simpa using this
  ·have z':codeAmong p2 (ps.toList ++ [rawInt pos.line,rawInt pos.col,.ref c'])=some cv:=by simpa using z
   rcases qt3 p2 pos (.ref c') cv ps.toList tr z' with y | y
   ·obtain ⟨d,e1,e2,e3⟩:=hcs p2 cv y
    exact ⟨d,e1,e2,old d _ e2 e3⟩
   ·exact ⟨c',y,nc,q01⟩
end
def qD3 (CX:CXT)(P:Program)(w:World)(K:PySem.W.Frag)(mg:Str->Option Value)(base:Heap)(N:List Str)(qual:Str)(scope:Scope)(f:Addr)(cd:Value)(cl:List (Str×Addr))(A:Around)(outer:List Env)(s:Shared)(H:Hp)(E:XK):Cx where
 prog:=P
 w:=w
 K:=K
 mg:=mg
 base:=base
 A:=A.deeper (PySem.W.envX qual scope s.heap.objs.size f cd cl)
 N:=N
 s₀:=s
 H₀:=H
 env:=PySem.W.envX qual scope s.heap.objs.size f cd cl
 outer:=outer
 stack:=PySem.W.envX qual scope s.heap.objs.size f cd cl :: outer
 ex:=[]
 calm:=true
 fn:=λ_=>false
 pn:=[]
 xe:=λe s'=>wpAny (model P w) (A.deeper (PySem.W.envX qual scope s.heap.objs.size f cd cl)) (leaving (PySem.W.envX qual scope s.heap.objs.size f cd cl) e) (λ_ s''=>CX outer H s E e s'') (λe' s''=>CX outer H s E e' s'') s'
structure LamScope (sc:Scope):Prop where
 kind:sc.kind=.function
 co:sc.isCoroutine=false
 gen:sc.isGenerator=false
 nocell:∀ x∈sc.names,x.2≠.cell
structure Caps (base:Heap) (N:List Str) (scope:Scope) (cl:List (Str×Addr)) (σ:St):Prop where
 inj:∀ x y c,cl.lookup x=some c->cl.lookup y=some c->x=y
 has:∀ x,scope.names.lookup x=some .free->∃ c,cl.lookup x=some c
 cell:∀ x c,cl.lookup x=some c->∃ v,base.IsCell c v
 val:∀(i:Nat) (x:Str) (v:V),N[i]? = some x->σ[i]? = some (some v)->∃ c u,scope.names.lookup x=some .free/\cl.lookup x=some c/\base.IsCell c (some u)/\RelV v u
 len:σ.length=N.length
section
variable {CX:CXT}{P:Program}{w:World}{K:PySem.W.Frag}{mg:Str->Option Value}{base:Heap}{k:Nat}{f c:Addr}{qual:Str}{params:Arguments}{body:Expr}{scope:Scope}{cl:List (Str×Addr)}{pm ctv:Value}{N:List Str}{σ:St}{sp:Sp}
theorem lam_fn (ho:base.get? f=some (qH0 qual params body scope cl pm c ctv))(S:LamScope scope)(Cp:Caps base N scope cl σ)(len:∀ vs H Q E,sp vs H Q E->vs=[])(hcd:∀ H Q E,sp [] H Q E->H c=some (CodeE c qual))
  (hbody:∀(A:Around) (outer:List Env) (s:Shared) (H:Hp) (Q:VK) (E:XK),Room k (A.deeper (PySem.W.envX qual scope s.heap.objs.size f (.ref c) cl))->sp [] H Q E ->
   ∃ t,PE (qD3 CX P w K mg base N qual scope f (.ref c) cl A outer s H E) body t/\t σ H Q) :
  FnOk P w K mg base CX (k + 1) f (PySem.W.kla_fn "<lambda>" qual params body scope cl pm (.ref c) ctv) [] sp:=by
 refine ⟨λvs H Q E h=>by rw [len vs H Q E h]; rfl,λA outer s H args us vs Q E hr e0 hb r hsp=>?_⟩
 obtain rfl:=len _ _ _ _ hsp
 have lim:s.heap.NoLimit:=e0.mod.nolimit.keeps λb o e=>(e0.bs b o e).1
 have hC:=hcd H Q E hsp
 have rcd:s.heap.CodeRec (.ref c) qual:=(e0.hok c _ hC).1
 refine PySem.W.kla_callFunE hr.depth (e0.bs _ _ ho).1 rfl S.co S.gen rfl rcd (hb _ _ _ _ ?_)
 refine wpAny_newFunctionEnv S.nocell (λx hx=>?_) (λh1 hns hsb=>?_) S.kind
 ·exact absurd (show x∈([]:List (Str×Value)) from hx) (by simp)
 have hk:∀ b o,s.heap.get? b=some o->h1.get? b=some o:=λb o e=>(hsb.2 b (Nat.ne_of_lt (Heap.lt_size e))).trans (Heap.get?_push_of_some _ e)
 refine ⟨lim.keeps hk,?_⟩
 show codeAny _ _ (.expr body (PySem.W.envX qual scope s.heap.objs.size f (.ref c) cl)) _ _
 obtain ⟨t,ht,hq⟩:=hbody A outer s H Q E (hr.deeper _) hsp
 have cellH:∀ x d v,cl.lookup x=some d->base.IsCell d v->h1.IsCell d v/\H d=none:=λx d v _ ⟨o,e,z⟩=>⟨⟨o,hk _ _ (e0.bs _ _ e).1,z⟩,(e0.bs _ _ e).2⟩
 have I:Inv (qD3 CX P w K mg base N qual scope f (.ref c) cl A outer s H E) [] σ H { s with heap:=h1,toks:=s.toks + (([]:List Str).zip us).length }:=by
  have noA:∀ b:Addr,b∉(qD3 CX P w K mg base N qual scope f (.ref c) cl A outer s H E).ex:=λb z=>absurd (show b∈([]:List Addr) from z) (by simp)
  refine ⟨⟨e0.mod,S.kind,rfl,rfl,Nat.le_refl _,Cp.inj,λy hy=>?_,λy d z _=>?_,λ_=>hr.hd,Around.frames_deeper e0.frames,.inr ⟨rfl,rfl⟩,λb z=>absurd z (noA b),e0.bs,e0.bsz,λb _ _=>noA b,λb z=>absurd z (noA b),e0.funs,e0.frf⟩,
   rfl,e0.bare,Un.kept hk,⟨_,hns,λi y v h1 h2 h3=>?_⟩,λy d h=>?_,e0.hok.fresh (Nat.le_refl _),λy d h=>?_,λp hp=>absurd (show p∈([]:List (Addr×Obj)) from hp) (by simp),e0.hok.kept hk,Cp.len⟩
  ·have hy:scope.names.lookup y=some .cell∨scope.names.lookup y=some .free:=hy
   rcases hy with hy | hy
   ·exact absurd rfl (S.nocell _ (PySem.mem_of_lookup hy))
   ·exact Cp.has y hy
  ·exact absurd (show false=true from z) (by decide)
  ·obtain ⟨d,u,k1,k2,k3,k4⟩:=Cp.val i y v h1 h2
   exact ⟨u,k4,.inr ⟨.inr k1,d,k2,(cellH y d _ k2 k3).1⟩⟩
  ·obtain ⟨v,z⟩:=Cp.cell y d h
   exact ⟨v,(cellH y d _ h z).1⟩
  ·obtain ⟨v,z⟩:=Cp.cell y d h
   exact (cellH y d _ h z).2
 refine PySem.W.kla_codeExpr (wpAny_mono (ht [] _ σ H Q I hq) (λu s' hs=>?_) λe s' hs=>hs)
 obtain ⟨v,H',J,rv,q⟩:=hs
 exact ⟨v,H',J.os,J.bare,J.base,J.hok,rv,q⟩
end
theorem passL {P:Program}{w:World}{K:PySem.W.Frag}{mg:Str->Option Value}{base:Heap}{N:List Str}{qual:Str}{scope:Scope}{f:Addr}{cd:Value}{cl:List (Str×Addr)}{A:Around}{outer:List Env}{s:Shared}{H:Hp}{E:XK} :
  q73 (CXE P w) (qD3 (CXE P w) P w K mg base N qual scope f cd cl A outer s H E) E:=by
 intro pins σ H1 s1 e s2 I h
 obtain ⟨ea,C,dx,tb,H0,H2,rfl,os,bare,un,hok,e1,ht,sx,n0,q⟩:=h
 have J:Inv (qD3 (CXE P w) P w K mg base N qual scope f cd cl A outer s H E) pins σ H2 s2:=I.call' (ch:=[]) os un hok bare λb z=>absurd z (by simp)
 refine qG9 (X:=qD3 (CXE P w) P w K mg base N qual scope f cd cl A outer s H E) rfl rfl J e1 ht λs3 T H3 J3 e3 eT sx3=>?_
 exact ⟨ea,C,dx,.ref T,H0,H3,rfl,J3.os,J3.bare,J3.base,J3.hok,e3,.inr ⟨T,rfl,eT⟩,λb o hb z=>sx3 b o hb (sx b o hb z),n0,q⟩
def lcl (env:Env):List (Str×NameKind)->List (Str×Addr)->List (Str×Addr)
 | [],acc=>acc
 | (x,k) :: r,acc=>if (k == .free)=true then lcl env r ((x,(env.cells.lookup x).getD 0) :: acc) else lcl env r acc
theorem qw3 {env:Env}{f:Str×NameKind->List (Str×Addr)->Sem (ForInStep (List (Str×Addr)))}(hf:∀ x k cs,f (x,k) cs=if (k == .free)=true then (do let c <- cellOf env x; pure (.yield ((x,c) :: cs))) else pure (.yield cs)) :
  ∀(names:List (Str×NameKind)) (acc:List (Str×Addr)),(∀ y∈names,y.2=.free->∃ c,env.cells.lookup y.1=some c)->forIn names acc f=pure (lcl env names acc)
 | [],acc,_=>by simp [lcl]
 | (x,k) :: r,acc,h=>by
  rw [List.forIn_cons,hf]
  unfold lcl
  by_cases hk:(k == .free)=true
  ·obtain ⟨c,e⟩:=h (x,k) (.head _) (eq_of_beq hk)
   have e:env.cells.lookup x=some c:=e
   have e2:cellOf env x=pure c:=by unfold cellOf; rw [e]
   rw [if_pos hk,if_pos hk,e2,pure_bind,pure_bind,e]
   exact qw3 hf r _ λy hy=>h y (.tail _ hy)
  ·rw [if_neg hk,if_neg hk,pure_bind]
   exact qw3 hf r _ λy hy=>h y (.tail _ hy)
theorem qL6 {scope:Scope}{env:Env}(h:∀ y∈scope.names,y.2=.free->∃ c,env.cells.lookup y.1=some c):closureFor scope env=pure (lcl env scope.names []):=by
 have e:=qw3 (env:=env) (f:=λx cs=>if (x.2 == .free)=true then (do let c <- cellOf env x.1; pure (.yield ((x.1,c) :: cs))) else pure (.yield cs)) (λ_ _ _=>rfl) scope.names [] h
 show (forIn scope.names [] _ >>= λcs=>pure cs)=_
 rw [bind_pure]
 exact e
theorem qp9 {env:Env}:∀(names:List (Str×NameKind)) (acc:List (Str×Addr)),(∀ y∈names,y.2=.free->∃ c,env.cells.lookup y.1=some c)->(∀ x c,acc.lookup x=some c->env.cells.lookup x=some c) ->
  ∀ x c,(lcl env names acc).lookup x=some c->env.cells.lookup x=some c
 | [],acc,_,ha=>ha
 | (x,k) :: r,acc,h,ha=>by
  unfold lcl
  by_cases hk:(k == .free)=true
  ·rw [if_pos hk]
   obtain ⟨c,e⟩:=h (x,k) (.head _) (eq_of_beq hk)
   have e:env.cells.lookup x=some c:=e
   refine qp9 r _ (λy hy=>h y (.tail _ hy)) λy d q=>?_
   rw [List.lookup_cons] at q
   split at q
   ·rename_i z
    rw [eq_of_beq z,e]
    rw [e] at q
    exact q
   ·exact ha y d q
  ·rw [if_neg hk]
   exact qp9 r _ (λy hy=>h y (.tail _ hy)) ha
theorem qC8 {env:Env}{x:Str}:∀(names:List (Str×NameKind)) (acc:List (Str×Addr)),(acc.lookup x).isSome=true->((lcl env names acc).lookup x).isSome=true
 | [],acc,h=>h
 | (y,k) :: r,acc,h=>by
  unfold lcl
  split
  ·refine qC8 r _ ?_
   rw [List.lookup_cons]
   split
   ·rfl
   ·exact h
  ·exact qC8 r _ h
theorem qw0 {env:Env}{x:Str}:∀(names:List (Str×NameKind)) (acc:List (Str×Addr)),(x,NameKind.free)∈names->((lcl env names acc).lookup x).isSome=true
 | (y,k) :: r,acc,h=>by
  unfold lcl
  rcases List.mem_cons.mp h with e | e
  ·cases e
   rw [if_pos (show (NameKind.free == NameKind.free)=true by decide)]
   refine qC8 r _ ?_
   rw [List.lookup_cons,beq_self_eq_true]
   rfl
  ·split
   ·exact qw0 r _ e
   ·exact qw0 r _ e
def capt (fm:List Nat)(σ:St):St:=fm.map λj=>σ.getD j none
theorem caps_of {X:Cx}{pins:List (Addr×Obj)}{σ:St}{H:Hp}{s:Shared}{N:List Str}{scope:Scope}{fm:List Nat}(I:Inv X pins σ H s)(hfn:∀ x,X.fn x=true)(hfr:∀ y∈scope.names,y.2=.free->X.env.kindOf y.1=some .cell)(hfm:fm.length=N.length)
  (hN:∀(i:Nat) (x:Str),N[i]? = some x->scope.names.lookup x=some .free/\∃ j,fm[i]? = some j/\X.N[j]? = some x):Caps (z58 s.heap H X.stack) N scope (lcl X.env scope.names []) (capt fm σ):=by
 have hc:∀ y∈scope.names,y.2=.free->∃ c,X.env.cells.lookup y.1=some c:=λy hy hk=>I.ok.has y.1 (.inl (hfr y hy hk))
 have sound:∀ x c,(lcl X.env scope.names []).lookup x=some c->X.env.cells.lookup x=some c:=qp9 scope.names [] hc λx c e=>by cases e
 have cellB:∀ x c v,X.env.cells.lookup x=some c->s.heap.IsCell c v->(z58 s.heap H X.stack).IsCell c v:=λx c v e ⟨o,ho,hd⟩=>by
  refine ⟨o,qx1 ho (I.freeC x c e) λhm=>?_,hd⟩
  rcases List.mem_cons.mp (I.stkSub c hm) with z | z
  ·exact I.cne x c e z
  ·obtain ⟨_,o2,ho2,_⟩:=I.ok.funs.mem z
   exact absurd (Nat.lt_of_lt_of_le (Heap.lt_size ho2) (I.ok.cab x c (hfn x) e)) (Nat.lt_irrefl _)
 refine ⟨λx y c h1 h2=>I.ok.inj x y c (sound x c h1) (sound y c h2),λx hx=>?_,λx c e=>?_,λi x v h1 h2=>?_,by unfold capt; rw [List.length_map]; exact hfm⟩
 ·exact Option.isSome_iff_exists.mp (qw0 scope.names [] (PySem.mem_of_lookup hx))
 ·obtain ⟨v,z⟩:=I.cell x c (sound x c e)
  exact ⟨v,cellB x c v (sound x c e) z⟩
 ·obtain ⟨fr,j,e1,e2⟩:=hN i x h1
  have e3:σ[j]? = some (some v):=by
   unfold capt at h2
   rw [List.getElem?_map,e1] at h2
   have h2:some (σ.getD j none)=some (some v):=h2
   have h3:=Option.some.inj h2
   rw [List.getD_eq_getElem?_getD] at h3
   cases q:σ[j]? with
   | none=>rw [q] at h3; cases h3
   | some a=>rw [q] at h3; exact congrArg some h3
  obtain ⟨c,e4⟩:=Option.isSome_iff_exists.mp (qw0 (env:=X.env) scope.names [] (PySem.mem_of_lookup fr))
  have e5:=sound x c e4
  have kd:X.env.kindOf x=some .cell:=hfr (x,.free) (PySem.mem_of_lookup fr) rfl
  obtain ⟨m,hn,hl⟩:=I.loc
  obtain ⟨u,r,l⟩:=hl j x v e2 e3 (.inr (.inl kd))
  refine ⟨c,u,fr,e4,cellB x c _ e5 ?_,r⟩
  rcases l with ⟨k,_⟩ | ⟨_,c2,k2,z⟩
  ·rw [kd] at k; cases k
  ·rw [e5] at k2; cases k2; exact z
section
variable {X:Cx}{CX:CXT}{k:Nat}{f:Addr}{fd:FuncData}{ps:List Str}{sp:Sp}{E:XK}{x:Str}{p pos:Pos}
theorem run_big {pins:List (Addr×Obj)}{σ:St}{H:Hp}{s:Shared}{Q:VK}{us:List Value}{vs:List V}(F:FnOk X.prog X.w X.K X.mg (z58 s.heap H X.stack) CX k f fd ps sp)(hr:Room k X.A)(hb:Binds X.K fd ps [])(hx:q73 CX X E)
  (I:Inv X pins σ H s) (r:Vals vs us) (h:sp vs H Q E):wpAny (model X.prog X.w) X.A (call (.ref f) us) (EP X pins σ Q) X.xe s:=by
 have hl:(us ++ []).length=ps.length:=by rw [List.append_nil,<- r.length]; exact F.len _ _ _ _ h
 have hbt:=hb s us I.kIn hl
 rw [List.append_nil] at hbt
 refine wpAny_call (codeAny_mono (F.run X.A X.stack s H ⟨us,[]⟩ us vs Q E hr I.env0.big hbt r h) λr s' hq=>?_)
 cases r with
 | error e=>exact hx pins σ H s e s' I hq
 | ok fl =>
  cases fl with
  | ret u=>exact I.after hq
  | next=>exact False.elim hq
  | brk=>exact False.elim hq
  | cont=>exact False.elim hq
def tCallV (i:Nat)(f:Addr)(sp:Sp)(E:XK):TE:=λσ H Q=>σ[i]? = some (some (.ref f))/\sp [] H Q E
theorem z17 {i:Nat}(G:FnOk X.prog X.w X.K X.mg X.base CX k f fd [] sp) (hr:Room k X.A) (ho:X.base.get? f=some { cls:=.type "function",data:=.func fd }) (hb:Binds X.K fd [] []) (hx:q73 CX X E) (hN:X.N[i]? = some x) (hv:Vis X.env.scope x)
  (hd:(x == ("__debug__" : Str))=false:=by decide) (hcd:(x == ("__classdict__" : Str))=false:=by decide):PE X (.Call (.Name x p) [] [] pos) (tCallV i f sp E):=by
 intro pins s σ H Q I h
 obtain ⟨e,h⟩:=h
 refine wpAny_Call_Name_kw (thn (z78 hN hv hd hcd pins s σ H (λv H'=>v=.ref f/\H'=H) I ⟨_,e,rfl,rfl⟩) λu s1 ⟨v,H1,I1,r,ev,eH⟩=>?_)
 subst ev eH
 obtain rfl:u=Value.ref f:=r
 refine PySem.W.callWith_of (P:=λh=>h.get? f=some { cls:=.type "function",data:=.func fd }) rfl (λh q=>⟨.frame,.inl rfl,(PySem.W.Looks.ld (part:=none) q).andThen .now⟩) (evalArgs_nil3 ⟨I1.bk _ _ ho,?_⟩)
 exact qz2 (us:=[]) (vs:=[]) (dvs:=[]) G hr hb .nil hx I1 .nil h
def wordE (K:PySem.W.Frag)(W:Addr)(Q:VK):XK:=λC d H0=>∃(Ca dx:Addr) (ww:Str),C=.ref Ca/\d=some dx/\H0 dx=some (.xd [("word",.str ww)])/\XSub K Ca W/\XKl K Ca/\∀ H' r,Same H0 H'->H' r=none->Q (.ref r) (upd H' r (.tup [.str ww]))
def toldQ (Q:VK):VK:=λv H2=>[V.str "told",v].length<=sizeLine/\∀ r,H2 r=none->Q (.ref r) (upd H2 r (.tup [.str "told",v]))
theorem toldQ.mk {Q:VK}{v:V}{H2:Hp}(h:∀ r,H2 r=none->Q (.ref r) (upd H2 r (.tup [.str "told",v]))):toldQ Q v H2:=⟨Nat.le_trans (show 2<=100 by decide) (by decide),h⟩
def z63 (K:PySem.W.Frag)(W f:Addr)(spl:Sp):Sp:=λvs H Q _=>vs=[.ref f]/\spl [] H (toldQ Q) (wordE K W Q)
def tWord (K:PySem.W.Frag)(W P:Addr)(q:Str)(fm:List Nat)(t:XK->TE):TE:=λσ H Q=>TabOk H P q/\∀ H1,TabOk H1 P q->SameP P H H1->t (wordE K W Q) (capt fm σ) H1 (toldQ Q)
theorem pe_word {st:Stmt}{y:Str}{fw W c P:Addr}{fdw:FuncData}{kl kw:Nat}{params:Arguments}{body:Expr}{scope:Scope}{lpos:Pos}{N:List Str}{fm:List Nat}{t:XK->TE}(Dw:Df X.K X.mg x st [y] fw fdw)
  (Gw:∀(base:Heap) (f:Addr) (fdl:FuncData) (spl:Sp),base.get? f=some { cls:=.type "function",data:=.func fdl }->Binds X.K fdl [] []->FnOk X.prog X.w X.K X.mg base (CXE X.prog X.w) (kl + 1) f fdl [] spl ->
   FnOk X.prog X.w X.K X.mg base (CXE X.prog X.w) kw fw fdw [y] (z63 X.K W f spl))
  (hr:Room kw X.A) (hcode:X.env.code=.ref c) (C:PySem.W.CodeHd X.base c P) (B:BMain X.mg X.base) (hfn:∀ x,X.fn x=true)
  (S:LamScope scope) (hfr:∀ y∈scope.names,y.2=.free->X.env.kindOf y.1=some .cell) (hfm:fm.length=N.length) (hN:∀(i:Nat) (x:Str),N[i]? = some x->scope.names.lookup x=some .free/\∃ j,fm[i]? = some j/\X.N[j]? = some x)
  (hbl:∀(base:Heap) (f c':Addr) (A:Around) (outer:List Env) (s:Shared) (H:Hp) (E:XK),Room kl (A.deeper (PySem.W.envX (X.env.qual ++ "<lambda>") scope s.heap.objs.size f (.ref c') (lcl X.env scope.names []))) ->
   PE (qD3 (CXE X.prog X.w) X.prog X.w X.K X.mg base N (X.env.qual ++ "<lambda>") scope f (.ref c') (lcl X.env scope.names []) A outer s H E) body (t E))
  (hx:q73 (CXE X.prog X.w) X E0) (hg:Gl X x:=by rfl) (hdef:defaultsOf params X.env=([],[]):=by rfl)
  (hbind:∀(q:Str) (cl:List (Str×Addr)) (pm ctv:Value) (c':Addr),bindArgs (PySem.W.kla_fn "<lambda>" q params body scope cl pm (.ref c') ctv) ⟨[],[]⟩=pure []:=by intro _ _ _ _ _; rfl)
  (hdb:(x == ("__debug__" : Str))=false:=by decide):PE X (.Call (.Name x p) [.Lambda params body scope lpos] [] pos) (tWord X.K W P (X.env.qual ++ "<lambda>") fm t):=by
 intro pins s σ H Q I h
 obtain ⟨T,h⟩:=h
 have hc:∀ y∈scope.names,y.2=.free->∃ c,X.env.cells.lookup y.1=some c:=λy hy hk=>I.ok.has y.1 (.inl (hfr y hy hk))
 refine wpAny_Call_Name_kw (qh2 I hg Dw.mg ?_ hdb)
 refine PySem.W.callWith_K (h₀:=X.base) I.ok.mod.kin Dw.F.kp ?_ (by rfl) (by rfl)
 show wpAny _ _ (spliced ((false,eval (.Lambda params body scope lpos) X.env) :: backTo pos (starEach [] X.env))) _ _ s
 refine Calls.spliced_cons (z42 I hdef (qL6 hc) hcode C B T λf c' ctv H1 s1 I1 ho nf nfr hC T1 sp1=>?_)
 refine Calls.spliced_nil ⟨I1.kIn,?_⟩
 have hob:(z58 s1.heap H1 X.stack).get? f=some (qH0 (X.env.qual ++ "<lambda>") params body scope (lcl X.env scope.names []) ((X.mg "__name__").getD .none) c' ctv):=qx1 ho nf nfr
 have hbl':Binds X.K (PySem.W.kla_fn "<lambda>" (X.env.qual ++ "<lambda>") params body scope (lcl X.env scope.names []) ((X.mg "__name__").getD .none) (.ref c') ctv) [] []:=.all λus hl=>by
  obtain rfl:=List.eq_nil_of_length_eq_zero hl
  exact hbind _ _ _ _ _
 have L:=lam_fn (CX:=CXE X.prog X.w) (P:=X.prog) (w:=X.w) (K:=X.K) (mg:=X.mg) (k:=kl) (sp:=λvs H Q E=>vs=[]/\H c'=some (CodeE c' (X.env.qual ++ "<lambda>"))/\t E (capt fm σ) H Q) hob S (caps_of I1 hfn hfr hfm hN) (λ_ _ _ _ z=>z.1) (λ_ _ _ z=>z.2.1)
  λA outer s H Q E hr z=>⟨t E,hbl _ f c' A outer s H E hr,z.2.2⟩
 exact run_big (E:=E0) (Gw _ f _ _ hob hbl' L) hr Dw.b hx I1 (vs:=[.ref f]) (.cons rfl .nil) ⟨rfl,rfl,hC,h H1 T1 sp1⟩
end
theorem qT2 {P:Program}{w:World}{K:PySem.W.Frag}{mg mb:Str->Option Value}{CX:CXT}{k:Nat}{fa a:Addr}{fd:FuncData}{x:Str}{sp:Sp}{s₁:Shared}{vs:List Value}{ns:List Int}{ts:List Addr}
  (KX:K.In s₁.heap) (hns:s₁.heap.Ns mainGlobals mg) (hb:s₁.heap.Ns builtinsNs mb) (hbb:∀ x:Str,x ≠ "__name__" -> mb x=bootBuiltins x) (hlim:s₁.heap.NoLimit) (hg:s₁.gens = #[])
  (ha:s₁.heap.get? a=some { cls:=.type "list",data:=.seq vs.toArray }) (hi:IntsAre vs ns) (hl:ns.length<=sizeLine) (hr:Room k callerA)
  (hT:∀ P∈ts,s₁.heap.get? P=some (PySem.W.tabObj #[])) (hKT:∀ P∈ts,K.lookup P=none) (hct:∀ P∈ts,isCodeTable s₁.heap P) (BM:BMain mg s₁.heap)
  (F:∀ base:Heap,K.In base->base.Ns mainGlobals mg->BMain mg base->FnOk P w K mg base CX k fa fd [x] sp) (hbind:∀(s:Shared) (u:Value),BindsTo s fd ⟨[u],[]⟩ [(x,u)])
  (hsp:∀ H:Hp,SqL K H a (ns.map V.int)->(∀ P∈ts,H P=some (.tbl #[]))->sp [.ref a] H (λv _=>v=.bl true) λ_ _ _=>False)
  (hCX:∀ H e s',CX [] H s₁ (λ_ _ _=>False) e s'->False) :
  codeAny (model P w) callerA (.call (.ref fa) ⟨[.ref a],[]⟩) (λr s'=>r=.ok (.ret (.bool true))/\OldK s₁.heap s'.heap/\s'.os=s₁.os/\AllBare s'.gens) s₁:=by
 have rv:=qx6 hi
 have lenV:=hi.length
 have naT:a∉ts:=λz=>by
  have:=hT a z
  rw [ha] at this
  cases this
 have core:∀ H:Hp,(∀ b,H b=none∨(b=a/\K.lookup a=none/\∃ xs,H b=some (.frz { cls:=.type "list",data:=.seq vs.toArray } (.lst xs)))∨(b∈ts/\H b=some (.tbl #[])))->SqL K H a (ns.map V.int)->(∀ P∈ts,H P=some (.tbl #[]))->HOk P w H s₁.heap ->
   codeAny (model P w) callerA (.call (.ref fa) ⟨[.ref a],[]⟩) (λr s'=>r=.ok (.ret (.bool true))/\OldK s₁.heap s'.heap/\s'.os=s₁.os/\AllBare s'.gens) s₁:=by
  intro H hO hS hTs hok
  have base_of:∀{b:Addr} {o:Obj},s₁.heap.get? b=some o->H b=none->(qX8 s₁.heap H).get? b=some o:=λe n=>z46 e n
  have noT:∀{b:Addr} {o:Obj},s₁.heap.get? b=some o->(∀ n,o.data≠.seq vs.toArray n)->(∀ xs,o.data≠.fields xs)->H b=none:=λ{b o} e d1 d2=>by
   rcases hO b with z | ⟨rfl,_,_,z⟩ | ⟨z,_⟩
   ·exact z
   ·rw [ha] at e; cases e
    exact absurd rfl (d1 _)
   ·rw [hT b z] at e; cases e
    exact absurd rfl (d2 _)
  have nsK:∀{b:Addr} {m:Str->Option Value},s₁.heap.Ns b m->(qX8 s₁.heap H).Ns b m:=λ{b m} ⟨o,es,ep,e,d,r⟩=>⟨o,es,ep,base_of e (noT e (λn z=>by rw [d] at z; cases z) (λxs z=>by rw [d] at z; cases z)),d,r⟩
  have hKb:K.In (qX8 s₁.heap H):=λb o e=>base_of (KX b o e) (by
   rcases hO b with z | ⟨rfl,z,_⟩ | ⟨z,_⟩
   ·exact z
   ·rw [z] at e; cases e
   ·rw [hKT b z] at e; cases e)
  have hM:Mod K mg (qX8 s₁.heap H):=⟨hKb,nsK hns,⟨mb,nsK hb,hbb⟩,let ⟨mc,h1,h2⟩:=hlim; ⟨mc,nsK h1,h2⟩⟩
  have hBM:BMain mg (qX8 s₁.heap H):=by
   obtain ⟨bm,ob,e1,e2,e3,e4,e5,e6⟩:=BM.ex
   exact ⟨bm,ob,e1,e2,base_of e3 (noT e3 (λn z=>by rw [e6] at z; cases z) (λxs z=>by rw [e6] at z; cases z)),e4,e5,e6⟩
  have e0:Env0 P w K mg (qX8 s₁.heap H) callerA [] s₁ H:=⟨rfl,hM,λb o e=>of_hidT e,Nat.le_of_eq (qU0 _ _),trivial,λb hb=>absurd (show b∈([]:List Addr) from hb) (by simp),hok,.of_eq hg⟩
  refine codeAny_mono ((F _ hKb (nsK hns) hBM).run callerA [] s₁ H ⟨[.ref a],[]⟩ [.ref a] [.ref a] _ _ hr e0 (hbind s₁ (.ref a)) (.cons rfl .nil) (hsp H hS hTs)) λr s' h=>?_
  cases r with
  | error e=>exact (hCX H e s' h).elim
  | ok fl =>
   cases fl with
   | next=>exact False.elim h
   | brk=>exact False.elim h
   | cont=>exact False.elim h
   | ret u =>
    obtain ⟨v,H',os,bare,un,hok',r',q⟩:=h
    have q':v=.bl true:=q
    subst q'
    obtain rfl:u=Value.bool true:=r'
    refine ⟨rfl,⟨λb o e=>?_,λb o e=>un.there b o e (by simp)⟩,os,bare⟩
    rcases hO b with z | ⟨rfl,_,xs,z⟩ | ⟨zt,z⟩
    ·exact .inl (un.keep b o e z (by intro z; exact absurd (show b∈([]:List Addr) from z) (by simp)) (by simp))
    ·have z2:=un.frzs b _ _ z
     obtain ⟨e1,_⟩:=hok b _ z
     obtain ⟨e2,_⟩:=hok' b _ z2
     rw [e] at e1; cases e1
     exact .inl e2
    ·obtain ⟨more,z2⟩:=un.tbls b _ z
     have e1:=hok' b _ z2
     rw [hT b zt] at e; cases e
     exact .inr (.inl ⟨hct b zt,rfl,#[],more,rfl,e1⟩)
 have okT:∀(H:Hp) (b:Addr),b∈ts->ObjOk P w H s₁.heap b (.tbl #[]):=λH b hb=>hT b hb
 cases hk:K.lookup a with
 | some o =>
  have e:=KX a o hk
  rw [ha] at e
  cases e
  refine core (λb=>if b∈ts then some (.tbl #[]) else none) (λb=>?_) (.inr ⟨_,vs.toArray,_,hk,rfl,rfl,rfl,by rw [List.size_toArray,lenV]; exact hl,by simpa using rv⟩) (λb hb=>if_pos hb) (λb u z=>?_)
  ·by_cases hb:b∈ts
   ·exact .inr (.inr ⟨hb,if_pos hb⟩)
   ·exact .inl (if_neg hb)
  ·by_cases hb:b∈ts
   ·have z':=(if_pos hb).symm.trans z
    cases z'
    exact okT _ b hb
   ·have z':=(if_neg hb).symm.trans z
    cases z'
 | none =>
  refine core (λb=>if b∈ts then some (.tbl #[]) else if b=a then some (.frz { cls:=.type "list",data:=.seq vs.toArray } (.lst (ns.map V.int))) else none) (λb=>?_) (.inl (.inr ⟨{ cls:=.type "list",data:=.seq vs.toArray },?_⟩)) (λb hb=>if_pos hb) (λb u z=>?_)
  ·by_cases hb:b∈ts
   ·exact .inr (.inr ⟨hb,if_pos hb⟩)
   ·by_cases hb2:b=a
    ·exact .inr (.inl ⟨hb2,hk,_,(if_neg hb).trans (if_pos hb2)⟩)
    ·exact .inl ((if_neg hb).trans (if_neg hb2))
  ·exact (if_neg naT).trans (if_pos rfl)
  ·by_cases hb:b∈ts
   ·have z':=(if_pos hb).symm.trans z
    cases z'
    exact okT _ b hb
   ·have z:=(if_neg hb).symm.trans z
    by_cases hb2:b=a
    ·have z':=(if_pos hb2).symm.trans z
     cases z'
     subst hb2
     exact ⟨ha,by rw [List.length_map]; exact hl,vs,_,rv,ha⟩
    ·have z':=(if_neg hb2).symm.trans z
     cases z'
theorem walk_ofT {l:PySem.W.OpenLaw}{n k:Nat}{q:Program}{loose:List Str}{XP:(Str->Option Value)->Heap->Prop}{YP:World->Heap->Prop}{d:DefRec}{K:Params->PySem.W.Frag}{CX:World->CXT}{sp:World->Sp}{x:Str}{tabs:List (Addr×Addr)}
  (hn:l.most=some n) (hn2:n<=sizeLine) (hdf:d.params.defaults=[]) (hr:Room k callerA)
  (hY:∀(w:World) (h:Heap),YP w h->(K w.params).In h) (hT:∀(w:World) (h:Heap),YP w h->∀ q∈tabs,h.get? q.2=some (PySem.W.tabObj #[]))
  (hC:∀(w:World) (h:Heap),(K w.params).In h->∀ q∈tabs,PySem.W.CodeHd h q.1 q.2) (hK:∀(w:World),∀ q∈tabs,(K w.params).lookup q.2=none)
  (F:∀(w:World) (mg:Str->Option Value) (fa:Addr) (h:Heap),(K w.params).In h->h.Ns mainGlobals mg->mg d.name=some (.ref fa) ->
   ∃ fd:FuncData,(∀(s:Shared) (u:Value),BindsTo s fd ⟨[u],[]⟩ [(x,u)]) /\
    ∀ base:Heap,(K w.params).In base->base.Ns mainGlobals mg->BMain mg base->FnOk l.prog w (K w.params) mg base (CX w) k fa fd [x] (sp w))
  (hsp:∀(w:World) (H:Hp) (a:Addr) (ns:List Int),ns.length<=n->SqL (K w.params) H a (ns.map V.int)->(∀ q∈tabs,H q.2=some (.tbl #[]))->sp w [.ref a] H (λv _=>v=.bl true) λ_ _ _=>False)
  (hCX:∀(w:World) (H:Hp) (s:Shared) (e:Value) (s':Shared),CX w [] H s (λ_ _ _=>False) e s'->False) :
  PySem.W.WalkO q loose XP YP l.row.toRowW d [] (λf vs=>PySem.call f vs):=by
 refine Att.attach_call hn hdf λw s₀ s₁ mg mb fa o pm cd doc a vs ns G Y ho hd hcd hmg hobj hints hlen hg=>?_
 have KX:=hY w _ Y
 obtain ⟨fd,hb,hF⟩:=F w mg fa _ KX G.T.g hmg
 have tb:∀ P∈tabs.map (·.2),∃ c,(c,P)∈tabs:=λP hP=>by
  obtain ⟨⟨c,P'⟩,hq,rfl⟩:=List.mem_map.mp hP
  exact ⟨c,hq⟩
 refine qT2 (ts:=tabs.map (·.2)) KX G.T.g G.T.b G.T.builtins G.T.nolimit hg hobj hints (Nat.le_trans hlen hn2) hr (λP hP=>?_) (λP hP=>?_) (λP hP=>?_) ⟨G.T.bmain⟩ hF hb (λH hS hTs=>hsp w H a ns hlen hS λq hq=>hTs q.2 (List.mem_map_of_mem hq)) λH e s'=>hCX w H s₁ e s'
 ·obtain ⟨c,hq⟩:=tb P hP; exact hT w _ Y _ hq
 ·obtain ⟨c,hq⟩:=tb P hP; exact hK w _ hq
 ·obtain ⟨c,hq⟩:=tb P hP
  exact ((hC w _ KX _ hq).tab (hT w _ Y _ hq)).isCodeTable
section
variable {X:Cx}
end
end L2
namespace K19
open PySem L2
open PyProof.Rows (envOfC)
abbrev qj8:Stmt:=qa0 (top 2) 0
abbrev qk0:Stmt:=qa0 (top 7) 0
abbrev qj9:Stmt:=qa0 (top 8) 0
structure Xs (K:PySem.W.Frag) (mg:Str->Option Value) (W BC BS fW fC fS:Addr) (gW gC gS:FuncData):Prop where
 mW:mg "WapentakeError" = some (.ref W)
 mC:mg "BadPattern" = some (.ref BC)
 mS:mg "Empty" = some (.ref BS)
 mV:mg "ValueError" = none
 kW:XKl K W
 kC:XKl K BC
 kS:XKl K BS
 sC:XSub K BC W
 sS:XSub K BS W
 aW:XAt K W "__init__" fW
 iC:XMk K BC fC
 iS:XMk K BS fS
 FW:Fun K "__init__" "WapentakeError.__init__" qj8 fW gW
 FC:Fun K "__init__" "BadPattern.__init__" qk0 fC gC
 FS:Fun K "__init__" "Empty.__init__" qj9 fS gS
 bW:Binds K gW ["self", "word"] []
 bC:Binds K gC ["self"] []
 bS:Binds K gS ["self"] []
section
variable {P:Program}{w:World}{K:PySem.W.Frag}{mg:Str->Option Value}{base:Heap}{C fi fa ft fy fm fc:Addr}{gi ga gt gy gm gc:FuncData}{W BC BS fW fC fS:Addr}{gW gC gS:FuncData}
def spWInit (K:PySem.W.Frag):Sp:=λvs H Q _=>∃(ea C:Addr) (tb:Value) (ww:Str),vs=[.ref ea,.str ww]/\H ea=some (XO C none tb ea)/\XKl K C/\∀ dx,H dx=none->Q .non (upd (upd H ea (XO C (some dx) tb ea)) dx (.xd [("word",.str ww)]))
theorem qZ0:FnScope ["self", "word"] ["self", "word"] (q02 qj8):=⟨rfl,rfl,rfl,by decide +kernel,rfl,by decide +kernel,by decide +kernel⟩
theorem qn3 (T:Xs K mg W BC BS fW fC fS gW gC gS):FnOk P w K mg base (CXE P w) 1 fW gW ["self", "word"] (spWInit K):=by
 refine T.FW.okN qZ0 (λvs H Q E h=>?_) (λcdv A outer s H vs Q E hr h=>?_)
 ·obtain ⟨ea,C,tb,ww,rfl,_⟩:=h
  rfl
 ·obtain ⟨ea,C,tb,ww,rfl,e1,XC,k⟩:=h
  refine ⟨_,q04 (q26 (z08 (by rfl) T.mV (q00 (pv 0) (q00 (pv 1) q03)))) (q05 (ps_xfld (pv 0) (pv 1))),?_⟩
  exact ⟨_,rfl,_,rfl,ea,C,none,tb,_,rfl,e1,XC,_,rfl,_,rfl,ea,C,tb,rfl,e1,XC,XC.nw,λdx hd=>k dx hd⟩
def qy5 (C:Addr)(ww:Str):Sp:=λvs H Q _=>∃(ea:Addr) (tb:Value),vs=[.ref ea]/\H ea=some (XO C none tb ea)/\∀ dx,H dx=none->Q .non (upd (upd H ea (XO C (some dx) tb ea)) dx (.xd [("word",.str ww)]))
theorem qZ8:FnScope ["self"] ["self"] (q02 qk0):=⟨rfl,rfl,rfl,by decide +kernel,rfl,by decide +kernel,by decide +kernel⟩
theorem z35 (T:Xs K mg W BC BS fW fC fS gW gC gS):FnOk P w K mg base (CXE P w) 2 fC gC ["self"] (qy5 BC "bad pattern"):=by
 refine T.FC.okN qZ8 (λvs H Q E h=>?_) (λcdv A outer s H vs Q E hr h=>?_)
 ·obtain ⟨ea,tb,rfl,_⟩:=h
  rfl
 ·obtain ⟨ea,tb,rfl,e1,k⟩:=h
  refine ⟨_,q05 (q26 (qn1 T.aW (qn3 T) hr (by rfl) T.mW T.bW q19 (q00 (pv 0) (q00 q15 q03)))),?_⟩
  exact ⟨_,rfl,ea,BC,tb,_,rfl,e1,T.kC,k⟩
theorem qZ2:FnScope ["self"] ["self"] (q02 qj9):=⟨rfl,rfl,rfl,by decide +kernel,rfl,by decide +kernel,by decide +kernel⟩
theorem z23 (T:Xs K mg W BC BS fW fC fS gW gC gS):FnOk P w K mg base (CXE P w) 2 fS gS ["self"] (qy5 BS "empty"):=by
 refine T.FS.okN qZ2 (λvs H Q E h=>?_) (λcdv A outer s H vs Q E hr h=>?_)
 ·obtain ⟨ea,tb,rfl,_⟩:=h
  rfl
 ·obtain ⟨ea,tb,rfl,e1,k⟩:=h
  refine ⟨_,q05 (q26 (qn1 T.aW (qn3 T) hr (by rfl) T.mW T.bW q19 (q00 (pv 0) (q00 q15 q03)))),?_⟩
  exact ⟨_,rfl,ea,BS,tb,_,rfl,e1,T.kS,k⟩
def Ref (H:Hp)(E:XK)(C:Addr)(ww:Str):Prop:=∀ dx H0,Same H H0->H0 dx=some (.xd [("word",.str ww)])->E (.ref C) (some dx) H0
theorem Ref.same {H H':Hp}{E:XK}{C:Addr}{ww:Str}(r:Ref H E C ww)(s:Same H H'):Ref H' E C ww:=λdx H0 s0 e=>r dx H0 (s.trans' s0) e
theorem Ref.out {H:Hp}{E:XK}{C ea dx:Addr}{o u:HO}{ww:Str}(r:Ref H E C ww)(he:H ea=none)(hd:upd H ea o dx=none) :
  E (.ref C) (some dx) λb=>if b=ea then none else upd (upd (upd H ea o) ea u) dx (.xd [("word",.str ww)]) b:=by
 have ne:dx≠ea:=λz=>by rw [z,q01] at hd; cases hd
 rw [q07 ne] at hd
 refine r dx _ (λb v e=>?_) ?_
 ·rw [if_neg (q16 e he),q07 (q16 e hd),q07 (q16 e he),q07 (q16 e he)]
  exact e
 ·rw [if_neg ne,q01]
theorem Ref.raise {C ea:Addr}{H:Hp}{E:XK}{ww:Str}(r:Ref H E C ww)(kC:XKl K C)(he:H ea=none):qy5 C ww [.ref ea] (upd H ea (XO C none .none ea)) (λv H2=>v=.non/\∃ ea' C' dx,V.ref ea=.ref ea'/\H2 ea'=some (XO C' (some dx) .none ea')/\XKl K C'/\E (.ref C') (some dx) (λb=>if b=ea' then none else H2 b)) E:=by
 refine ⟨ea,.none,rfl,q01,λdx hd=>⟨rfl,ea,C,dx,rfl,?_,kC,r.out he hd⟩⟩
 rw [q07 (λz=>by rw [<- z,q01] at hd; cases hd),q01]
def inG (g:Str)(a:Nat):Bool:=decide (a∈g.cps.toList)
theorem z88 (g:Str)(a:Nat):(!(Builtin.Str.occurrences g ⟨#[a]⟩ 0 g.length 1).isEmpty)=inG g a:=by
 rw [PySem.StrLaws.found_one]
 rfl
def spOnlyG:Sp:=λvs H Q _=>∃(x g:Str),vs=[.str x,.str g]/\x.length<=100/\∀ H',Same H H'->Q (.bl (((List.range x.length).map λi=>inG g (ch x i)).all id)) H'
theorem z28 {f:Addr}{fd:FuncData}(D:Df K mg "only_of" qh6 Pon f fd) (B:Bt mg):FnOk P w K mg base (CXE P w) 1 f fd Pon spOnlyG:=by
 refine D.F.okN qO9 (λvs H Q E h=>?_) (λcdv A outer s H vs Q E hr h=>?_)
 ·obtain ⟨x,g,rfl,_⟩:=h
  rfl
 ·obtain ⟨x,g,rfl,hn,k⟩:=h
  refine ⟨_,q05 (q13 (q12 (q90 rfl) (by rfl) B.all (by rfl) (q00
   (q38 (N':=["sign", "signs"]) (fm:=[none,some 1]) rfl ⟨rfl,by decide +kernel,by decide +kernel,rfl,rfl,rfl⟩
    (qm2 (pv 0)) (λ_ _ _ _=>q09 (i:=0) nd_on rfl (Or.inl rfl)) (λ_ _ _ _=>q35)
    (λ_ _ _ _=>q50 qp4 (pv 0) (pv 1) (by rfl))) q03))),?_⟩
  refine ⟨_,rfl,_,rfl,λp hp=>?_⟩
  refine ql1 (λi σ H2=>∃ u,σ=[u,some (.str g)]/\Same H H2/\H2 p=some (.lst ((List.range i).map λj=>V.bl (inG g (ch x j))))) ⟨none,rfl,Same.new hp,q01⟩ ?_ ?_
  ·rintro i σ H2 hi ⟨u,rfl,s2,e2⟩
   refine q34 ⟨_,rfl,_,rfl,_,_,rfl,rfl,_,e2,q68 _ _ (by omega),_,rfl,Same.grow hp s2,?_⟩
   rw [q01,<- qf4]
   show some (HO.lst (_ ++ [V.bl _]))=_
   rw [show (!(Builtin.Str.occurrences g ⟨#[x.cps.getD i 0]⟩ 0 g.length 1).isEmpty)=inG g (ch x i) from z88 g _]
  ·rintro σ H2 ⟨u,rfl,s2,e2⟩
   rw [qS3] at e2
   exact ⟨p,_,rfl,SqL.of e2,k H2 s2⟩
theorem nyd_iff {a:Nat}:a∈(("ny" : Str) ++ ("-" : Str)).cps.toList↔(a=121∨a=110∨a=45):=by
 show a∈[110,121,45]↔_
 simp
 omega
theorem pat_iff {n:Nat}{x:Str}(hl:x.length=n):((List.range x.length).map λi=>inG (("ny" : Str) ++ ("-" : Str)) (ch x i)).all id=true↔Pat n x:=by
 rw [List.all_eq_true]
 constructor
 ·intro h
  refine ⟨hl,λi hi=>?_⟩
  exact nyd_iff.mp (of_decide_eq_true (h _ (List.mem_map.mpr ⟨i,List.mem_range.mpr (by omega),rfl⟩)))
 ·rintro h b hb
  obtain ⟨i,hi,rfl⟩:=List.mem_map.mp hb
  exact decide_eq_true (nyd_iff.mpr (h.sgn i (by have:=List.mem_range.mp hi; omega)))
def qN8:Sp:=λvs H Q _=>∃(x:Str) (n:Nat),vs=[.str x,.int n]/\x.length<=100/\1<=n/\n<=12/\∀(b:Bool) H',(b=true↔Pat n x)->Same H H'->Q (.bl b) H'
abbrev Pip:List Str:=["pattern", "questions"]
theorem qZ5:FnScope Pip Pip (q02 qg7):=⟨rfl,rfl,rfl,by decide +kernel,rfl,by decide +kernel,by decide +kernel⟩
theorem z31 {f fc' fo:Addr}{fd gc' go:FuncData}(D:Df K mg "is_pattern" qg7 Pip f fd) (Dc:Df K mg "check_count" q78 ["questions"] fc' gc') (Do:Df K mg "only_of" qh6 Pon fo go) (B:Bt mg) (M:Gm mg):FnOk P w K mg base (CXE P w) 2 f fd Pip qN8:=by
 refine D.F.okN qZ5 (λvs H Q E h=>?_) (λcdv A outer s H vs Q E hr h=>?_)
 ·obtain ⟨x,n,rfl,_⟩:=h
  rfl
 ·obtain ⟨x,n,rfl,hx,n1,n12,k⟩:=h
  obtain ⟨t,mS⟩:=M.signs
  refine ⟨_,q04 (q26 (q23 Dc (qp5 Dc M) hr q19 (q00 (pv 1) q03)))
   (q05 (q13 (qp3 (q50 q58 (q12 q83 (by rfl) B.len PySem.boot_len (q00 (pv 0) q03)) (pv 1) (q14 _))
    (qs1 (q23 Do (z28 Do B) hr q19 (q00 (pv 0) (q00 (q24 q77 (qe5 (v:=.str "ny") (by rfl) mS ⟨t,rfl⟩) q15) q03))))))),?_⟩
  refine ⟨_,rfl,n,rfl,n1,n12,_,rfl,_,rfl,q22 hx,_,rfl,rfl,_,rfl,qd4 (λc=>?_) (λc=>?_)⟩
  ·have c:decide (V.int (x.length:Nat)=V.int (n:Nat))=true:=c
   rw [qb0] at c
   have c:((x.length:Nat):Int)=(n:Nat):=by simpa using c
   exact ⟨_,rfl,_,_,rfl,rfl,q22 (show 3<=100 by decide),x,_,rfl,hx,λH' s'=>k _ H' (pat_iff (by omega)) s'⟩
  ·have c:¬ decide (V.int (x.length:Nat)=V.int (n:Nat))=true:=c
   rw [qb0] at c
   have c:¬ ((x.length:Nat):Int)=(n:Nat):=by simpa using c
   exact k false H ⟨(λh=>by cases h),(λh=>absurd h.len (by omega))⟩ (Same.refl H)
def z73 (BC:Addr):Sp:=λvs H Q E=>∃(x:Str) (n:Nat),vs=[.str x,.int n]/\x.length<=100/\1<=n/\n<=12/\((Pat n x/\∀ H',Same H H'->Q .non H')∨(¬ Pat n x/\Ref H E BC "bad pattern"))
theorem sc_cpat:FnScope Pip Pip (q02 qo7):=⟨rfl,rfl,rfl,by decide +kernel,rfl,by decide +kernel,by decide +kernel⟩
theorem ok_cpat {f fi':Addr}{fd gi':FuncData}(D:Df K mg "check_pattern" qo7 Pip f fd) (Di:Df K mg "is_pattern" qg7 Pip fi' gi') (Gi:FnOk P w K mg base (CXE P w) 2 fi' gi' Pip qN8) (T:Xs K mg W BC BS fW fC fS gW gC gS):FnOk P w K mg base (CXE P w) 4 f fd Pip (z73 BC):=by
 refine D.F.okE sc_cpat (λvs H Q E h=>?_) (λcdv A outer s H vs Q E hr h=>?_)
 ·obtain ⟨x,n,rfl,_⟩:=h
  rfl
 ·obtain ⟨x,n,rfl,hx,n1,n12,k⟩:=h
  refine ⟨_,q05 (q41 (qa7 (q52 (q23 Di Gi (hr.mono (by decide)) q19 (q00 (pv 0) (q00 (pv 1) q03))))) (q05 (qm8 rfl qk3 (qi0 T.kC T.iC (z35 T) hr (by rfl) T.mC T.bC qk3))) q21),?_⟩
  refine ⟨_,rfl,_,rfl,x,n,rfl,hx,n1,n12,λb H' hb s'=>⟨_,rfl,?_⟩⟩
  rcases k with ⟨hp,k⟩ | ⟨hp,r⟩
  ·rw [hb.mpr hp]
   exact q30 (k H' s')
  ·have:b=false:=by cases b with
    | false=>rfl
    | true=>exact absurd (hb.mp rfl) hp
   subst this
   exact q48 λea he=>(r.same s').raise T.kC he
theorem qy1 {rs:List Str}{n:Nat}{x:Str}(h:pgM rs 0 (q71 x n)=[]):qb9 rs n x:=by
 have go:∀ q r,q < n->r < n->¬ ch x q=45->¬ ch x r=45->q<=r->0 < q29 rs q (ch x q) r (ch x r):=λq r hq hr nq nr hle=>by
  cases z:q29 rs q (ch x q) r (ch x r) with
  | succ _=>omega
  | zero =>
   exfalso
   have:qk q r∈pgM rs 0 (q71 x n):=by
    refine List.mem_flatMap.mpr ⟨(q,ch x q),?_,List.mem_flatMap.mpr ⟨(r,ch x r),?_,?_⟩⟩
    ·rw [List.take_length]; exact qf3 hq nq
    ·rw [List.take_length]; exact qf3 hr nr
    ·unfold pgB
     rw [if_pos ⟨hle,z⟩]
     exact List.mem_singleton.mpr rfl
   rw [h] at this
   cases this
 intro q r hq hr nq nr
 by_cases hle:q<=r
 ·exact go q r hq hr nq nr hle
 ·rw [qa2]; exact go r q hr hq nr nq (by omega)
def Nobody (rs:List Str)(n:Nat)(x:Str)(q r:Nat):Prop:=q<=r/\q < n/\r < n/\¬ ch x q=45/\¬ ch x r=45/\q29 rs q (ch x q) r (ch x r)=0
theorem gap_mem {rs:List Str}{n:Nat}{x:Str}{k:List Key}(h:k∈pgM rs 0 (q71 x n)):∃ q r,k=qk q r/\Nobody rs n x q r:=by
 obtain ⟨p,hp,hk⟩:=List.mem_flatMap.mp h
 obtain ⟨p',hp',hk⟩:=List.mem_flatMap.mp hk
 obtain ⟨h1,h2,h5⟩:=qa9 (List.mem_of_mem_take hp)
 obtain ⟨h3,h4,h6⟩:=qa9 (List.mem_of_mem_take hp')
 unfold pgB at hk
 split at hk
 ·rename_i c
  refine ⟨p.1,p'.1,List.mem_singleton.mp hk,c.1,h1,h3,by rw [<- h2]; exact h5,by rw [<- h4]; exact h6,?_⟩
  rw [<- h2,<- h4]
  exact c.2
 ·cases hk
def spCfil (C BS:Addr):Sp:=λvs H Q E=>∃(t dx kp bt:Addr) (n m:Nat) (rs:List Str),vs=[.ref t]/\TabAt C H t dx kp bt n m rs/\((rs≠[]/\Q .non H)∨(rs=[]/\Ref H E BS "empty"))
theorem sc_cfil:FnScope ["table"] ["table"] (q02 q97):=⟨rfl,rfl,rfl,by decide +kernel,rfl,by decide +kernel,by decide +kernel⟩
theorem ok_cfil {f:Addr}{fd:FuncData}(D:Df K mg "check_filled" q97 ["table"] f fd) (T:Tb K mg C fi fa ft fy fm fc gi ga gt gy gm gc) (X:Xs K mg W BC BS fW fC fS gW gC gS) (M:Gm mg):FnOk P w K mg base (CXE P w) 4 f fd ["table"] (spCfil C BS):=by
 refine D.F.okE sc_cfil (λvs H Q E h=>?_) (λcdv A outer s H vs Q E hr h=>?_)
 ·obtain ⟨t,dx,kp,bt,n,m,rs,rfl,_⟩:=h
  rfl
 ·obtain ⟨t,dx,kp,bt,n,m,rs,rfl,tab,k⟩:=h
  refine ⟨_,q05 (q41 (q11 q58 (z09 (pv 0) T.cl T.mm (z20 T M) (hr.mono (by decide)) T.bm .nil q19) q06 (q14 _)) (q05 (qm8 rfl qk3 (qi0 X.kS X.iS (z23 X) hr (by rfl) X.mS X.bS qk3))) q21),?_⟩
  refine ⟨_,rfl,t,dx,_,rfl,tab.ins,rfl,t,dx,kp,bt,n,m,rs,rfl,tab,rfl,_,rfl,qd4 (λz=>?_) (λz=>?_)⟩
  ·have z:decide (V.int (rs.length:Nat)=V.int 0)=true:=z
   rw [qb0] at z
   have z:((rs.length:Nat):Int)=0:=by simpa using z
   have z:rs=[]:=List.length_eq_zero_iff.mp (by omega)
   rcases k with ⟨h0,_⟩ | ⟨_,r⟩
   ·exact absurd z h0
   ·exact λea he=>r.raise X.kS he
  ·have z:¬ decide (V.int (rs.length:Nat)=V.int 0)=true:=z
   rw [qb0] at z
   have z:¬ ((rs.length:Nat):Int)=0:=by simpa using z
   rcases k with ⟨_,k⟩ | ⟨h0,_⟩
   ·exact k
   ·rw [h0] at z; exact absurd rfl z
end
abbrev qc4:Stmt:=top 62
abbrev qg2:Stmt:=top 63
theorem qH8 (xs:List Int)(n:Nat)(h:xs.length<=1000):ql0 (xs.map V.int) (some n) none=(xs.drop n).map V.int:=by
 unfold ql0
 rw [<- List.map_drop,<- List.map_take]
 congr 1
 have e1:HT.sIx (xs.map V.int).length 0 (some (n:Int))=min n xs.length:=by
  rw [List.length_map]
  unfold HT.sIx
  simp only
  split <;> omega
 have e2:HT.sIx (xs.map V.int).length (xs.map V.int).length none=xs.length:=by
  rw [List.length_map]
  rfl
 rw [e1,e2]
 by_cases z:n<=xs.length
 ·rw [Nat.min_eq_left z]
  exact List.take_of_length_le (by rw [List.length_drop]; exact Nat.le_refl _)
 ·rw [Nat.min_eq_right (by omega),List.drop_of_length_le (Nat.le_refl _),List.drop_of_length_le (by omega)]
  simp
theorem z01 (n k:Nat)(r:Nat->Nat->Nat):((List.range k).map λi=>V.str (tx n (r i)))=((List.range k).map λi=>tx n (r i)).map V.str:=by rw [List.map_map]; rfl
section
variable {P:Program}{w:World}{K:PySem.W.Frag}{mg:Str->Option Value}{base:Heap}{C fi fa ft fy fm fc:Addr}{gi ga gt gy gm gc:FuncData}
def z68 (K:PySem.W.Frag)(C:Addr):Sp:=λvs H Q _=>∃(l:Addr) (n:Nat) (rs:List Str),vs=[.ref l,.int n]/\SqL K H l (rs.map V.str)/\(∀ x∈rs,Row n x)/\1<=n/\n<=12/\rs.length<=500 /\
 ∀ t H' dx kp bt,Same H H'->H kp=none->H bt=none->H t=none->TabAt C H' t dx kp bt n rs.length rs->Q (.ref t) H'
abbrev Nlt:List Str:=["_law_rows_here", "_law_n", "_law_made", "_law_row"]
abbrev Plt:List Str:=["_law_rows_here", "_law_n"]
theorem sc_ltab:FnScope Nlt Plt (q02 qc4):=⟨rfl,rfl,rfl,by decide +kernel,rfl,by decide +kernel,by decide +kernel⟩
theorem TabAt.perm {C:Addr}{H:Hp}{t dx kp bt:Addr}{n m:Nat}{rs rs':List Str}(h:TabAt C H t dx kp bt n m rs)(p:rs.Perm rs'):TabAt C H t dx kp bt n m rs':=by
 obtain ⟨i,c,bvs,e1,e2,hK,hB,r⟩:=h
 exact ⟨i,c,bvs,e1,e2,hK.perm p,hB.perm p,r⟩
theorem ok_ltab {f fk:Addr}{fd gk:FuncData}(D:Df K mg "_law_table" qc4 Plt f fd) (T:Tb K mg C fi fa ft fy fm fc gi ga gt gy gm gc) (Dc:Df K mg "check_count" q78 ["questions"] fk gk) (Ga:FnOk P w K mg base (CXE P w) 4 fa ga Pta (z64 C)) (B:Bt mg) (M:Gm mg):FnOk P w K mg base (CXE P w) 5 f fd Plt (z68 K C):=by
 refine D.F.okN sc_ltab (λvs H Q E h=>?_) (λcdv A outer s H vs Q E hr h=>?_)
 ·obtain ⟨l,n,rs,rfl,_⟩:=h
  rfl
 ·obtain ⟨l,n,rs,rfl,hl,hx,n1,n12,l5,k⟩:=h
  refine ⟨_,q04 (q18 (i:=2) sc_ltab.nd rfl (Or.inl rfl) (pe_make T.mkC (z21 T Dc M) (hr.mono (by decide)) (by rfl) T.mC T.bi .nil q19 (q00 (pv 1) q03)))
   (q04 (q36 PassesOwn.never rfl (q27 (pv 0)) (q09 (i:=3) sc_ltab.nd rfl (Or.inl rfl))
    (q05 (q26 (q87 (pv 2) T.cl T.ma Ga hr T.ba .nil q19 (q00 (pv 3) q03)))))
   (q05 (q13 (pv 2)))),?_⟩
  refine ⟨_,rfl,λt dx ht hdx htd=>?_⟩
  refine ⟨t,dx,n,rfl,q01,n1,n12,λH4 kp bt tab4 hk4 hb4 keep4=>⟨rfl,?_⟩⟩
  have hk:H kp=none:=q39 (q39 hk4)
  have hb:H bt=none:=q39 (q39 hb4)
  have s4:Same H H4:=λb o e=>keep4 b o (λz=>by rw [z,ht] at e; cases e) (by
   rw [q07 (λz=>by rw [z,ht] at e; cases e),q07 (λz=>by rw [z,hdx] at e; cases e)]
   exact e)
  refine ⟨_,rfl,l,rfl,⟨_,s4.seq hl⟩,q62 (K:=K) (a:=l) (xs:=rs.map V.str) (λi σ H5=>∃ v3,σ=[some (.ref l),some (.int n),some (.ref t),v3]/\Same H H5/\TabAt C H5 t dx kp bt n i (rs.take i)) ⟨none,rfl,s4,by simpa using tab4⟩ (λi σ H5 _ ⟨_,_,s5,_⟩=>s5.seq hl) ?_ ?_⟩
  ·rintro i y σ H5 hi ⟨v3,rfl,s5,tab5⟩
   rw [List.getElem?_map] at hi
   cases z:rs[i]? with
   | none=>rw [z] at hi; cases hi
   | some x =>
    rw [z] at hi
    cases hi
    have il:i < rs.length:=(List.getElem?_eq_some_iff.mp z).1
    refine ⟨_,rfl,t,dx,_,rfl,tab5.ins,rfl,_,rfl,t,dx,kp,bt,n,i,rs.take i,x,rfl,tab5,hx x (List.mem_of_getElem? z),n1,n12,by omega,λH6 tab6 k6=>?_⟩
    refine ⟨_,rfl,λb o e=>k6 b o (λw=>by rw [w,hk] at e; cases e) (λw=>by rw [w,hb] at e; cases e) (s5 b o e),?_⟩
    rw [List.take_add_one,z]
    exact tab6.perm (List.perm_append_comm (l₁:=[x]) (l₂:=rs.take i))
  ·rintro σ H5 ⟨v3,rfl,s5,tab5⟩
   rw [List.length_map,List.take_length] at tab5
   exact ⟨_,rfl,k t H5 dx kp bt s5 hk hb ht tab5⟩
theorem qH6 (xs:List Str)(k:Nat):ql0 (xs.map V.str) none (some (k:Int))=(xs.take k).map V.str:=by
 unfold ql0
 have e2:HT.sIx (xs.map V.str).length (xs.map V.str).length (some (k:Int))=min k xs.length:=by
  rw [List.length_map]
  unfold HT.sIx
  simp only
  split <;> omega
 rw [e2]
 show ((xs.map V.str).drop 0).take (min k xs.length - 0)=_
 rw [List.drop_zero,Nat.sub_zero,<- List.map_take]
 congr 1
 by_cases z:k<=xs.length
 ·rw [Nat.min_eq_left z]
 ·rw [Nat.min_eq_right (by omega),List.take_of_length_le (by omega),List.take_of_length_le (by omega)]
def qN4 (K:PySem.W.Frag):Sp:=λvs H Q _=>∃(a:Addr) (ns:List Int) (mo:Int),vs=[.ref a,.int mo]/\SqL K H a (ns.map V.int)/\ns.length<=63 /\
 ∀(n:Nat) (q T:Addr) (rs:List Str) H',1<=n->n<=12->(∀ x∈rs,Row n x)->rs.length<=63->Same H H'->H' q=some (.lst (rs.map V.str))->H' T=some (.tup [.int n,.ref q])->Q (.ref T) H'
abbrev Nse:List Str:=["_law_script", "_law_most", "_law_n", "_law_rows_here"]
abbrev Pse:List Str:=["_law_script", "_law_most"]
theorem sc_setup:FnScope Nse Pse (q02 qg2):=⟨rfl,rfl,rfl,by decide +kernel,rfl,by decide +kernel,by decide +kernel⟩
theorem z24 {f fn fr fl fw:Addr}{fd gn gr gl gw:FuncData}(D:Df K mg "_law_setup" qg2 Pse f fd) (Dl:Df K mg "_law_cell" qm0 ["_law_script", "_law_k"] fl gl) (Dr:Df K mg "_law_draws" q95 Pdr fr gr) (Dn:Df K mg "_law_count" q69 ["_law_cell_here"] fn gn)
  (Dw:Df K mg "_law_rows" qo2 Pss fw gw) (Gw:FnOk P w K mg base (CXE P w) 3 fw gw Pss (z66 K)) (B:Bt mg):FnOk P w K mg base (CXE P w) 4 f fd Pse (qN4 K):=by
 refine D.F.okN sc_setup (λvs H Q E h=>?_) (λcdv A outer s H vs Q E hr h=>?_)
 ·obtain ⟨a,ns,mo,rfl,_⟩:=h
  rfl
 ·obtain ⟨a,ms,mo,rfl,hS,hl,k⟩:=h
  refine ⟨_,q04 (q18 (i:=2) sc_setup.nd rfl (Or.inl rfl) (q23 Dn (z34 Dn Dr B) (hr.mono (by decide)) q19 (q00 (q23 Dl (qv7 Dl B) (hr.mono (by decide)) q19 (q00 (pv 0) (q00 q06 q03))) q03)))
   (q04 (q18 (i:=3) sc_setup.nd rfl (Or.inl rfl) (q23 Dw Gw hr q19 (q00 (q56 qe2 (pv 0) (q75 q06) q76) (q00 (pv 2) (q00 (q23 Dl (qv7 Dl B) (hr.mono (by decide)) q19 (q00 (pv 0) (q00 q06 q03))) q03)))))
   (q04 (q41 (q11 qJ8 (pv 2) (pv 1) (q14 _)) (q05 (q18 (i:=3) sc_setup.nd rfl (Or.inl rfl) (q56 qe2 (pv 3) q76 (q75 q06)))) q21)
   (q05 (q13 (q54 (q00 (pv 2) (q00 (pv 3) q03))))))),?_⟩
  refine ⟨_,rfl,a,ms,0,rfl,hS,_,rfl,λn H2 n1 n12 s2=>?_⟩
  refine ⟨_,rfl,_,rfl,a,_,rfl,s2.seq hS,λlc hlc=>?_⟩
  have ex:ql0 (ms.map V.int) (some 2) none=(ms.drop 2).map V.int:=qH8 ms 2 (by omega)
  rw [ex]
  have s23:=Same.new (o:=.lst ((ms.drop 2).map V.int)) hlc
  refine ⟨_,rfl,_,rfl,a,ms,1,rfl,(s2.trans' s23).seq hS,?_⟩
  have lx:(ms.drop 2).length=ms.length - 2:=List.length_drop
  refine ⟨lc,ms.drop 2,n,_,rfl,SqL.of q01,by omega,n1,n12,λq H3 r hr' s3 hq e3=>?_⟩
  rw [z01] at e3
  have rws:∀ x∈(List.range (ms.drop 2).length).map λi=>tx n (r i),Row n x:=λx hx=>by
   obtain ⟨i,_,rfl⟩:=List.mem_map.mp hx
   exact tx_row (hr' i)
  refine ⟨_,rfl,_,rfl,_,_,rfl,rfl,_,rfl,qd4 (λ_=>?_) (λ_=>?_)⟩
  ·refine ⟨_,rfl,_,rfl,q,_,rfl,SqL.of e3,λld hld=>?_⟩
   rw [show ql0 (((List.range (ms.drop 2).length).map λi=>tx n (r i)).map V.str) none (some 9)=_ from qH6 _ 9]
   have sd:=Same.new (o:=.lst ((((List.range (ms.drop 2).length).map λi=>tx n (r i)).take 9).map V.str)) hld
   refine ⟨_,rfl,_,rfl,q22 (show 2<=100 by decide),λT hT=>?_⟩
   have s4:=Same.new (o:=.tup [.int n,.ref ld]) hT
   refine k n ld T _ _ n1 n12 (λx hx=>rws x (List.mem_of_mem_take hx)) ?_ (s2.trans' (s23.trans' (s3.trans' (sd.trans' s4)))) (s4 _ _ q01) q01
   rw [List.length_take]; omega
  ·refine ⟨_,rfl,_,rfl,q22 (show 2<=100 by decide),λT hT=>?_⟩
   have s4:=Same.new (o:=.tup [.int n,.ref q]) hT
   refine k n q T _ _ n1 n12 rws ?_ (s2.trans' (s23.trans' (s3.trans' s4))) (s4 _ _ e3) q01
   rw [List.length_map,List.length_range]; omega
end
end K19
namespace L2
open PySem
def qL:Str := "law" ++ ".<locals>." ++ "<lambda>"
theorem TabOk.ne {H:Hp}{Pt b:Addr}{o:HO}(t:TabOk H Pt qL)(e:H b=some o)(n:∀ ps,o≠.tbl ps):b≠Pt:=λz=>by
 obtain ⟨ps,hp,_⟩:=t.ex
 rw [z,hp] at e; cases e; exact n _ rfl
theorem qq1 {H H':Hp}{Pt b:Addr}{o:HO}(t:TabOk H Pt qL)(s:SameP Pt H H')(e:H b=some o)(n:∀ ps,o≠.tbl ps):H' b=some o:=s _ _ (TabOk.ne t e n) e
theorem qH8 (xs:List Int)(n:Nat)(h:xs.length<=1000):ql0 (xs.map V.int) (some n) none=(xs.drop n).map V.int:=by
 unfold ql0
 rw [<- List.map_drop,<- List.map_take]
 congr 1
 have e1:HT.sIx (xs.map V.int).length 0 (some (n:Int))=min n xs.length:=by
  rw [List.length_map]
  unfold HT.sIx
  simp only
  split <;> omega
 have e2:HT.sIx (xs.map V.int).length (xs.map V.int).length none=xs.length:=by
  rw [List.length_map]
  rfl
 rw [e1,e2]
 by_cases z:n<=xs.length
 ·rw [Nat.min_eq_left z]
  exact List.take_of_length_le (by rw [List.length_drop]; exact Nat.le_refl _)
 ·rw [Nat.min_eq_right (by omega),List.drop_of_length_le (Nat.le_refl _),List.drop_of_length_le (by omega)]
  simp
theorem qH6 (xs:List Str)(k:Nat):ql0 (xs.map V.str) none (some (k:Int))=(xs.take k).map V.str:=by
 unfold ql0
 have e2:HT.sIx (xs.map V.str).length (xs.map V.str).length (some (k:Int))=min k xs.length:=by
  rw [List.length_map]
  unfold HT.sIx
  simp only
  split <;> omega
 rw [e2]
 show ((xs.map V.str).drop 0).take (min k xs.length - 0)=_
 rw [List.drop_zero,Nat.sub_zero,<- List.map_take]
 congr 1
 by_cases z:k<=xs.length
 ·rw [Nat.min_eq_left z]
 ·rw [Nat.min_eq_right (by omega),List.take_of_length_le (by omega),List.take_of_length_le (by omega)]
theorem z96 {K:PySem.W.Frag}{H:Hp}{p:Addr}{x:V}{d:Dt}(h:H p=some (.tup [x]))(hx:Den K H x d):Den K H (.ref p) (.tup [d]):=by
 refine .tup (.inl (.inl h)) rfl (show 1<=5000 by decide) λi u v hu hv=>?_
 match i,hu,hv with
 | 0,hu,hv=>cases hu; cases hv; exact hx
 | _ + 1,hu,_=>cases hu
theorem eqb_t1 (a:Str):(Dt.tup [.str a]).eqb (.tup [.str a])=true:=by
 show (decide (a=a) && true)=true
 rw [decide_eq_true rfl]; rfl
end L2
namespace L2
open PySem PySem.Spec PyProof.Rows
section
variable {X:Cx}
def rEqNil (K:PySem.W.Frag):R2:=λx y H Q=>∃ a b xs,x=.ref a/\y=.ref b/\SqL K H a xs/\SqL K H b []/\Q (.bl xs.isEmpty) H
theorem z18 (hu:X.A.units < cLine):OpR X (compareOp .Eq) (rEqNil X.K):=by
 intro pins s σ H x y v u Q I rx ry h
 obtain ⟨a,b,xs,rfl,rfl,ha,hb,q⟩:=h
 cases rx
 cases ry
 obtain ⟨its,r1,p1,_⟩:=I.list ha
 obtain ⟨its2,r2,p2,_⟩:=I.list hb
 cases r2
 cases r1 with
 | nil=>exact PySem.EqBoolInt.of_rc (SeqAt.RcAt.lists (e:=λ_=>true) p1.isList p2.isList rfl hu (λj h1 _=>absurd h1 (by simp))) ⟨.bl true,H,I,rfl,q⟩
 | cons r t=>exact PySem.EqBoolInt.of_rc (SeqAt.RcAt.lists_lengths p1.isList p2.isList (by simp) hu) ⟨.bl false,H,I,rfl,q⟩
end
end L2
namespace K19
open PySem L2
open PyProof.Rows (envOfC)
abbrev qo0:Stmt:=top 70
section
variable {P:Program}{w:World}{K:PySem.W.Frag}{mg:Str->Option Value}{base:Heap}{C fi fa ft fy fm fc:Addr}{gi ga gt gy gm gc:FuncData}{W BC BS fW fC fS:Addr}{gW gC gS:FuncData}
abbrev Nw:List Str:=["_law_asked", "e"]
theorem sc_word:FnScope Nw ["_law_asked"] (q02 qo0):=⟨rfl,rfl,rfl,by decide +kernel,rfl,by decide +kernel,by decide +kernel⟩
theorem ok_word {fw f:Addr}{gw fdl:FuncData}{k:Nat}{spl:Sp}(D:Df K mg "_law_word" qo0 ["_law_asked"] fw gw) (T:Xs K mg W BC BS fW fC fS gW gC gS) (ho:base.get? f=some { cls:=.type "function",data:=.func fdl }) (hb:Binds K fdl [] [])
  (G:FnOk P w K mg base (CXE P w) k f fdl [] spl):FnOk P w K mg base (CXE P w) (k + 1) fw gw ["_law_asked"] (z63 K W f spl):=by
 refine D.F.okN sc_word (λvs H Q E h=>?_) (λcdv A outer s H vs Q E hr h=>?_)
 ·obtain ⟨rfl,_⟩:=h
  rfl
 ·obtain ⟨rfl,h⟩:=h
  refine ⟨_,q05 (ps_try (i:=1) (th:=tRet (tTup (qh4 (tXGet K (qE8 1) "word") qX6))) (Eh:=wordE K W Q) (W:=W) rfl rfl sc_word.nd rfl rfl (by rfl) T.mW T.kW
   (λpins Ey hp=>q05 (q13 (q54 (q00 q15 (q00 (z17 (i:=0) G hr ho hb hp rfl (Or.inl rfl)) q03)))))
   (λea=>by exact q05 (q13 (q54 (q00 (pe_xget (pv 1)) q03))))),?_⟩
  refine ⟨⟨rfl,h⟩,λC dx H0 ea T' H' he sx n0 ex=>?_⟩
  obtain ⟨Ca,dx',ww,e1,e2,e3,xs,xk,kk⟩:=he
  cases e1
  cases e2
  have ne:dx≠ea:=q16 e3 n0
  refine ⟨xs,_,rfl,ea,C,dx,_,_,.str ww,rfl,ex,sx dx _ ne e3,rfl,xk,xk.nw,q22 (show 1<=100 by decide),λr hr'=>?_⟩
  exact kk H' r (λb o e=>sx b o (q16 e n0) e) hr'
def qL:Str := "law" ++ ".<locals>." ++ "<lambda>"
theorem TabOk.ne {H:Hp}{Pt b:Addr}{o:HO}(t:TabOk H Pt qL)(e:H b=some o)(n:∀ ps,o≠.tbl ps):b≠Pt:=λz=>by
 obtain ⟨ps,hp,_⟩:=t.ex
 rw [z,hp] at e; cases e; exact n _ rfl
theorem qq1 {H H':Hp}{Pt b:Addr}{o:HO}(t:TabOk H Pt qL)(s:SameP Pt H H')(e:H b=some o)(n:∀ ps,o≠.tbl ps):H' b=some o:=s _ _ (TabOk.ne t e n) e
theorem TabAt.monoP {C:Addr}{H H':Hp}{Pt t dx kp bt:Addr}{n m:Nat}{rs:List Str}(T:TabOk H Pt qL)(s:SameP Pt H H')(h:TabAt C H t dx kp bt n m rs):TabAt C H' t dx kp bt n m rs:=by
 obtain ⟨i,c,bvs,e1,e2,r⟩:=h
 exact ⟨qq1 T s i (λps z=>by cases z),c,bvs,qq1 T s e1 (λps z=>by cases z),qq1 T s e2 (λps z=>by cases z),r⟩
variable {f cc Pt:Addr}
end
end K19
namespace L2
open PySem PySem.Spec
section
variable {prog:Program}{w:World}{A:Around}{E:Value->Shared->Prop}{s:Shared}
theorem qT5 {d:Addr}{o:Obj}{es:Array DictEntry}{ep:Nat}{Q:Value->Shared->Prop}(hd:(d == sysModules)=false)(ho:s.heap.get? d=some o)(hx:o.ExactDict)(hdat:o.data=.dict es ep)
  (hQ:Q (.ref s.heap.objs.size) { s with heap:=s.heap.push { cls:=.type "dict_keyiterator",data:=.fields #[.ref d,.int 0 0,.int es.size 0,.int ep 0] } }) :
  wpAny (model prog w) A (pyIter (.ref d)) Q E s:=by
 have hT:s.TypeIs (.ref d) "dict" := ⟨o,ho,hx.1⟩
 refine wpAny_pyIter_slot hT F.slot_dict_iter (wpAny_call_entry F.slot_dict_iter hT F.entry_dict_iter ?_ (F.args_dict_iter_1 _))
 unfold Builtin.«dict.__iter__» Builtin.Dict.dictSlotNone
 refine wpAny_bind (wpAny_bind (wpAny_notOrdered_dict hT (wpAny_pure ?_)))
 show wpAny _ _ (Builtin.Dict.showsAll d >>= _) _ _ s
 unfold Builtin.Dict.showsAll
 rw [if_neg (by rw [hd]; exact Bool.false_ne_true)]
 refine wpAny_bind (wpAny_pure (wpAny_bind (wpAny_dictEntries ho hdat (wpAny_bind (wpAny_dictEpoch ho hdat ?_)))))
 exact wpAny_bind (wpAny_newObj_type (wpAny_pure ⟨_,rfl, "dict_keyiterator",_,⟨_,Heap.get?_push_size _ rfl,rfl⟩,F.slot_dict_keyiterator_next.lookup,by simpa [rawInt] using hQ⟩))
theorem qR8 {it d:Addr}{i ep:Nat}{od:Obj}{es:Array DictEntry}{Q:Option Value->Shared->Prop}(hit:s.heap.IsKeyIter it d i es.size ep)(hod:s.heap.get? d=some od)(hdd:od.data=.dict es ep)(hi:i < es.size)
  (hQ:∀ h',h'.IsKeyIter it d (i + 1) es.size ep->Heap.SameBut it s.heap h'->Q (some es[i].key) { s with heap:=h' }):wpAny (model prog w) A (pyNext (.ref it)) Q E s:=by
 obtain ⟨o,ho,hc,hd⟩:=id hit
 have hit':(s.heap.update it (Obj.mapFields (·.setIfInBounds 1 (rawInt ((i:Int) + 1))))).IsKeyIter it d (i + 1) es.size ep :=
  ⟨_,Heap.get?_update_self _ ho (Obj.isFreed_of_fields (Obj.data_mapFields hd _)),(Obj.cls_mapFields ..).trans hc,by rw [Obj.data_mapFields hd]; simp [rawInt]⟩
 have fin:=hQ _ hit' (Heap.SameBut.update ..)
 unfold pyNext
 refine wpAny_bind (wpAny_attempt (wpAny_callSpecial?_slot (name:=Str.ofString "__next__") hit.typeIs F.slot_dict_keyiterator_next
  (wpAny_call_entry F.slot_dict_keyiterator_next hit.typeIs F.entry_dict_keyiterator_next ?_ (F.args_dict_keyiterator_next_1 _))))
 refine wpAny_bind (wpAny_pure (wpAny_bind (wpAny_bind ?_)))
 first | refine wpAny_bind (wpAny_typeNameOfWhole_keyiter hit.typeIs (wpAny_pure ?_)) | refine wpAny_bind (wpAny_typeNameOf_keyiter hit.typeIs (wpAny_pure ?_))
 refine wpAny_bind (wpAny_fieldsOf ho hd ?_)
 simp only [show Builtin.Dict_items.ownsTuple "dict_keyiterator" = false by decide,Bool.false_eq_true,if_false]
 show wpAny _ _ (if (Value.ref d == Value.none)=true then _ else _) _ _ s
 rw [if_neg (show ¬ ((Value.ref d == Value.none)=true) from Bool.false_ne_true)]
 refine wpAny_bind (wpAny_pure (wpAny_bind (wpAny_dictEntries hod hdd ?_)))
 rw [if_neg (by simp)]
 refine wpAny_bind (wpAny_pure (wpAny_bind (wpAny_dictEpoch hod hdd ?_)))
 rw [if_neg (by simp)]
 refine wpAny_pure ?_
 simp only [show ¬ ((i:Int) < 0) from by omega,if_false,Int.toNat_natCast,Array.getElem?_eq_getElem hi]
 refine wpAny_bind ?_
 first | refine wpAny_bind (wpAny_typeNameOfWhole_keyiter hit.typeIs (wpAny_pure ?_)) | refine wpAny_bind (wpAny_typeNameOf_keyiter hit.typeIs (wpAny_pure ?_))
 refine wpAny_bind (wpAny_isOneOf_keyiter hit.typeIs ?_)
 show wpAny _ _ (setField (.ref it) 1 (rawInt ((i:Int) + 1)) >>= _) _ _ s
 refine wpAny_bind (wpAny_setField ho hd (by simp) (wpAny_bind (wpAny_holding ?_)))
 refine wpAny_bind (wpAny_isOneOf_keyiter (s:={ s with heap:=s.heap.update it (Obj.mapFields (·.setIfInBounds 1 (rawInt ((i:Int) + 1)))) }) hit'.typeIs ?_)
 show wpAny _ _ (pure es[i].key) _ _ _
 exact wpAny_pure (wpAny_pure ⟨_,rfl,wpAny_pure fin⟩)
theorem z37 {it d:Addr}{i ep:Nat}{od:Obj}{es:Array DictEntry}{Q:Option Value->Shared->Prop}(hh:A.handled=none)(hit:s.heap.IsKeyIter it d i es.size ep)(hod:s.heap.get? d=some od)(hdd:od.data=.dict es ep)(hi:es.size<=i)
  (hQ:∀ h',Heap.ExtBut it s.heap h'->Q none { s with heap:=h' }):wpAny (model prog w) A (pyNext (.ref it)) Q E s:=by
 obtain ⟨o,ho,hc,hd⟩:=id hit
 unfold pyNext
 refine wpAny_bind (wpAny_attempt (wpAny_callSpecial?_slot (name:=Str.ofString "__next__") hit.typeIs F.slot_dict_keyiterator_next
  (wpAny_call_entry F.slot_dict_keyiterator_next hit.typeIs F.entry_dict_keyiterator_next ?_ (F.args_dict_keyiterator_next_1 _))))
 refine wpAny_bind (wpAny_pure (wpAny_bind (wpAny_bind ?_)))
 first | refine wpAny_bind (wpAny_typeNameOfWhole_keyiter hit.typeIs (wpAny_pure ?_)) | refine wpAny_bind (wpAny_typeNameOf_keyiter hit.typeIs (wpAny_pure ?_))
 refine wpAny_bind (wpAny_fieldsOf ho hd ?_)
 simp only [show Builtin.Dict_items.ownsTuple "dict_keyiterator" = false by decide,Bool.false_eq_true,if_false]
 show wpAny _ _ (if (Value.ref d == Value.none)=true then _ else _) _ _ s
 rw [if_neg (show ¬ ((Value.ref d == Value.none)=true) from Bool.false_ne_true)]
 refine wpAny_bind (wpAny_pure (wpAny_bind (wpAny_dictEntries hod hdd ?_)))
 rw [if_neg (by simp)]
 refine wpAny_bind (wpAny_pure (wpAny_bind (wpAny_dictEpoch hod hdd ?_)))
 rw [if_neg (by simp)]
 refine wpAny_pure ?_
 simp only [show ¬ ((i:Int) < 0) from by omega,if_false,Int.toNat_natCast,Array.getElem?_eq_none hi]
 refine wpAny_bind ?_
 first | refine wpAny_bind (wpAny_typeNameOfWhole_keyiter hit.typeIs (wpAny_pure ?_)) | refine wpAny_bind (wpAny_typeNameOf_keyiter hit.typeIs (wpAny_pure ?_))
 show wpAny _ _ (setField (.ref it) 0 .none >>= _) _ _ s
 refine wpAny_bind (wpAny_setField ho hd (by simp) ?_)
 show wpAny _ _ (newExc (.type "StopIteration") [] >>= _) _ _ _
 refine wpAny_bind ?_
 simp only [newExc,newTuple]
 refine wpAny_bind (wpAny_newObj_type ?_ (by size_fits))
 refine wpAny_bind (m:=firstArgMember _ _) (wpAny_of_eq (a:=Value.none) (by first | rfl | (simp only [firstArgMember]; rfl)) ?_)
 refine wpAny_newObj_type ?_ (by size_fits)
 simp only [raiseNew]
 refine wpAny_bind (wpAny_handled ?_)
 rw [show A.in1.handled=none from hh]
 refine wpAny_bind (wpAny_pure (wpAny_throw ?_))
 refine wpAny_bind (wpAny_isInstance (T := "StopIteration") (b:=true) ⟨_,Heap.get?_push_size _ rfl,rfl⟩ isSubtype_stop ?_)
 exact wpAny_pure (hQ _ (((Heap.SameBut.update ..).extBut.push _).push _))
end
theorem pd_at {α β:Type}{F:α->β->Prop}{l:List α}{m:List β}(h:Paired F l m):l.length=m.length/\∀{i:Nat}{a:α},l[i]? = some a->∃ b,m[i]? = some b/\F a b:=by
 induction h with
 | nil=>exact ⟨rfl,λh=>by cases h⟩
 | cons f r ih =>
  refine ⟨by rw [List.length_cons,List.length_cons,ih.1],λ{i a} h=>?_⟩
  cases i with
  | zero=>cases h; exact ⟨_,rfl,f⟩
  | succ i=>exact ih.2 h
def Itd (a:Addr)(o:Obj):It :=
 ⟨λi H=>∃ kvs,H a=some (.frz o (.dT kvs))/\i < kvs.length,
  λi H x H'=>H'=H/\∃ b,x=.ref b/\∀ kvs,H a=some (.frz o (.dT kvs))->∃ k v,kvs[i]? = some (k,v)/\H b=some (.tup (k.map kV)),
  λi H=>∃ kvs,H a=some (.frz o (.dT kvs))/\kvs.length<=i⟩
theorem qw7 {P:Program}{w:World}{H:Hp}{h:Heap}{a:Addr}{o:Obj}{kvs:List (List Key×V)}(x:ObjOk P w H h a (.frz o (.dT kvs))) :
  (a == sysModules)=false/\h.get? a=some o/\o.ExactDict/\∃ es ep,o.data=.dict es ep/\es.size=kvs.length/\∀(i:Nat) (hi:i < es.size),∃ k v b,kvs[i]? = some (k,v)/\es[i].key=.ref b/\H b=some (.tup (k.map kV)):=by
 obtain ⟨ho,z,y,xs,r,o',es,ep,h1,h2,h3,h4,h5⟩:=x
 rw [ho] at h1
 cases h1
 have l1:=(pd_at r).1
 have sz:es.size=kvs.length:=by rw [l1,<- Array.length_toList,h4,List.length_map]
 refine ⟨y,ho,h2,es,ep,h3,sz,λi hi=>?_⟩
 have hk:kvs[i]? = some kvs[i]:=List.getElem?_eq_getElem (by omega)
 obtain ⟨q,e1,e2,e3,e4⟩:=(pd_at r).2 hk
 refine ⟨_,_,q.2.1,hk,?_,e3⟩
 have:es.toList[i]? = some (entryOfKey (tupleKind (q40 P w)) q):=by rw [h4,List.getElem?_map,e1]; rfl
 have h6:es[i]=entryOfKey (tupleKind (q40 P w)) q:=by
  have h7:es.toList[i]? = some es[i]:=by simp [hi]
  rw [h7] at this
  exact Option.some.inj this
 rw [h6]
 rfl
theorem qN1 {P:Program}{w:World}{K:PySem.W.Frag}{tg:Expr}(a it:Addr)(o:Obj):Turn P w K tg (Itd a o) [it] it (λi h=>∃ es ep,o.data=.dict es ep/\h.IsKeyIter it a i es.size ep) where
 mem:=by simp
 obj:=λi h st b hb=>by
  have e:b=it:=by simpa using hb
  subst e
  obtain ⟨_,_,_,o,e,c,d⟩:=st
  exact ⟨o,e,λv z=>by rw [d] at z; cases z⟩
 keep:=λi h h' st k=>let ⟨es,ep,d,st⟩:=st; ⟨es,ep,d,st.at λo e=>k it (by simp) o e⟩
 item:=by
  intro X hP hw hK hc i pins s σ H E I hf st hg
  subst hP hw hK
  obtain ⟨kvs,e,il⟩:=hg
  obtain ⟨es',ep',d',st⟩:=st
  obtain ⟨_,ho,hx,es,ep,d,sz,at_⟩:=qw7 (I.hok a _ e)
  rw [d] at d'
  cases d'
  obtain ⟨k,v,b,e1,e2,e3⟩:=at_ i (by omega)
  obtain ⟨f0,f1,f2,f3,f4,f5⟩:=hf it (by simp)
  refine qR8 st ho d (by omega) λh' st' sb=>?_
  have I1:Inv X pins σ H { s with heap:=h' }:=I.turned (t':=s.toks) (λb o hb e=>(sb.2 b hb).trans e) f0 f1 f3 f4 f5
  obtain ⟨oi,ei,ci,di⟩:=id st'
  refine ⟨_,rfl,qU2 (s:={ s with heap:=h' }) ei ci di (by decide) ⟨.ref b,H,I1,e2,⟨rfl,b,rfl,λkvs' e'=>?_⟩,⟨_,_,d,st'⟩,λb hb=>(hf b hb).1⟩⟩
  rw [e] at e'
  cases e'
  exact ⟨k,v,e1,e3⟩
 done:=by
  intro X hP hw hK hc i pins s σ H E I hf st hg
  subst hP hw hK
  obtain ⟨kvs,e,il⟩:=hg
  obtain ⟨es',ep',d',st⟩:=st
  obtain ⟨_,ho,hx,es,ep,d,sz,at_⟩:=qw7 (I.hok a _ e)
  rw [d] at d'
  cases d'
  obtain ⟨f0,f1,f2,f3,f4,f5⟩:=hf it (by simp)
  exact z37 (I.ok.hd hc) st ho d (by omega) λh' eb=>⟨rfl,I.turned (t':=s.toks) (λb o hb e=>eb b o hb e) f0 f1 f3 f4 f5⟩
 self:=λ_ _ _ _ _ ⟨_,_,_,st⟩ h=>wpAny_pyIter_keyiter st h
section
variable {X:Cx}{tg:Expr}
theorem Inv.freeze {pins:List (Addr×Obj)}{σ:St}{H:Hp}{s:Shared}{a:Addr}{kvs:List (List Key×V)}(I:Inv X pins σ H s)(e:H a=some (.dT kvs)):∃ o,Inv X pins σ (upd H a (.frz o (.dT kvs))) s:=by
 have x:=I.hok a _ e
 obtain ⟨z,y,xs,r,o,es,ep,h1,h2,h3,h4,h5⟩:=id x
 have mu:Mut (H a):=by rw [e]; trivial
 have ta:∀ b ys,H b=some (.tup ys)->upd H a (.frz o (.dT kvs)) b=some (.tup ys):=λb ys q=>by rw [q07 (λw=>by rw [w,e] at q; cases q)]; exact q
 have hk:=I.hok.write (x:=a) (e:=a) (o':=.frz o (.dT kvs)) (h':=s.heap) mu (.inl rfl) (λ_ _ _ q=>q) ⟨o,h1⟩ ⟨h1,z,y,xs,Paired.mapP r λp q z=>⟨z.1,ta _ _ z.2.1,z.2.2⟩,o,es,ep,h1,h2,h3,h4,h5⟩
 exact ⟨o,I.un (t':=s.toks) (Un.write (x:=a) (e:=a) mu (.inl rfl) (λ_ _ _ q=>q) ⟨o,h1⟩) hk⟩
def iDict (te:TE):TI:=λσ H R=>te σ H λv H1=>∃ a kvs,v=.ref a/\((H1 a=some (.dT kvs)/\∀ o,R (Itd a o) (upd H1 a (.frz o (.dT kvs))))∨∃ o,H1 a=some (.frz o (.dT kvs))/\R (Itd a o) H1)
theorem qP9 {l:Expr}{tl:TE}(hl:PE X l tl):PI X tg l (iDict tl):=by
 intro pins s σ H R I h
 refine thn (hl pins s σ H _ I h) λv s1 ⟨x,H1,I1,r1,q1⟩=>?_
 obtain ⟨a,kvs,e,q⟩:=q1
 subst e
 cases r1
 have fin:∀(H2:Hp) (o:Obj),Inv X pins σ H2 s1->H2 a=some (.frz o (.dT kvs))->R (Itd a o) H2->wpAny (model X.prog X.w) X.A (pyIter (.ref a)) (PIE X pins σ tg R) X.xe s1:=λH2 o I2 e2 q2=>by
  obtain ⟨y,ho,hx,es,ep,d,sz,_⟩:=qw7 (I2.hok a _ e2)
  refine qT5 y ho hx d ?_
  refine ⟨s1.heap.objs.size,[s1.heap.objs.size],_,_,H2,rfl,I2.kept (t':=s1.toks) λb o e=>Heap.get?_push_of_some _ e,qN1 a _ o,⟨es,ep,d,_,Heap.get?_push_size _ rfl,rfl,rfl⟩,λb hb=>?_,q2⟩
  have e:b=s1.heap.objs.size:=by simpa using hb
  subst e
  exact I2.fpOk (Nat.le_refl _) (I2.hok.fresh (Nat.le_refl _))
 rcases q with ⟨e1,q⟩ | ⟨o,e1,q⟩
 ·obtain ⟨o,I2⟩:=I1.freeze e1
  exact fin _ o I2 q01 (q o)
 ·exact fin _ o I1 e1 q
theorem qH2 {a:Addr}{o:Obj}{kvs:List (List Key×V)}{g:TG}{tb:TS}{D:Ends}{σ:St}{H:Hp}(Pv:Nat->St->Hp->Prop)(h0:Pv 0 σ H)(hl:∀ i σ H,i<=kvs.length->Pv i σ H->H a=some (.frz o (.dT kvs)))
  (hs:∀ i k v b σ H,kvs[i]? = some (k,v)->Pv i σ H->H b=some (.tup (k.map kV))->g (.ref b) σ H λσ2 H2=>tb { D with nx:=Pv (i + 1),ct:=Pv (i + 1),bk:=D.nx } σ2 H2) (hd:∀ σ H,Pv kvs.length σ H->D.nx σ H) :
  ∃ W:Nat->Nat->St->Hp->Prop,(∃ m,W 0 m σ H)/\∀ i m σ H,W i m σ H ->
   ((Itd a o).stop i H/\D.nx σ H)∨((Itd a o).go i H/\∃ N:St->Hp->Prop,(∀ σ' H',N σ' H'->∃ m',m' < m/\W (i + 1) m' σ' H')/\∀ x H',(Itd a o).yld i H x H'->g x σ H' λσ2 H2=>tb { D with nx:=N,ct:=N,bk:=D.nx } σ2 H2):=by
 refine ⟨λi m σ H=>m=kvs.length - i/\i<=kvs.length/\Pv i σ H,⟨kvs.length,by simp,Nat.zero_le _,h0⟩,?_⟩
 rintro i m σ H ⟨rfl,hi,p⟩
 have e:=hl i σ H hi p
 by_cases hlt:i < kvs.length
 ·refine .inr ⟨⟨kvs,e,hlt⟩,Pv (i + 1),λσ' H' q=>⟨kvs.length - (i + 1),by omega,rfl,by omega,q⟩,?_⟩
  rintro x H' ⟨rfl,b,rfl,f⟩
  obtain ⟨k,v,e1,e2⟩:=f kvs e
  exact hs i k v b σ H' e1 p e2
 ·have z:i=kvs.length:=by omega
  subst z
  exact .inl ⟨⟨kvs,e,Nat.le_refl _⟩,hd σ H p⟩
end
section
variable {X:Cx}
theorem Inv.thaw {pins:List (Addr×Obj)}{σ:St}{H:Hp}{s:Shared}{a:Addr}{o:Obj}{kvs:List (List Key×V)}(I:Inv X pins σ H s)(e:H a=some (.frz o (.dT kvs)))(h0:X.H₀ a=none):Inv X pins σ (upd H a (.dT kvs)) s:=by
 have ne:∀ b,H b=none->upd H a (.dT kvs) b=none:=λb n=>by rw [q07 (λw=>by rw [w,e] at n; cases n)]; exact n
 have ta:∀ b ys,H b=some (.tup ys)->upd H a (.dT kvs) b=some (.tup ys):=λb ys q=>by rw [q07 (λw=>by rw [w,e] at q; cases q)]; exact q
 have to:∀ b c,H b=some (.own c)->upd H a (.dT kvs) b=some (.own c):=λb ys q=>by rw [q07 (λw=>by rw [w,e] at q; cases q)]; exact q
 refine ⟨I.ok,I.os,I.bare,⟨I.base.keep,I.base.slot,λb o q n hx=>ne b (I.base.free b o q n hx),I.base.there,λb xs q=>ta b xs (I.base.tups b xs q),λb u xs q=>?_,λb ps q=>?_⟩,I.loc,I.cell,ne _ I.free,λx c h=>ne _ (I.freeC x c h),λp hp=>?_,λb u q=>?_,I.len⟩
 ·rw [q07 (λw=>by rw [w,h0] at q; cases q)]
  exact I.base.frzs b u xs q
 ·obtain ⟨more,q'⟩:=I.base.tbls b ps q
  exact ⟨more,by rw [q07 (λw=>by rw [w,e] at q'; cases q')]; exact q'⟩
 ·obtain ⟨h1,h2,h3⟩:=I.pin p hp
  exact ⟨h1,ne _ h2,h3⟩
 ·by_cases w:b=a
  ·subst w
   rw [q01] at q
   cases q
   exact ObjOk.stay (show ObjOk X.prog X.w H s.heap b (.dT kvs) from (I.hok b _ e).2) (λ_ _ _ q=>q) (λc q=>to c _ q) ta
  ·rw [q07 w] at q
   exact (I.hok b u q).stay (λ_ _ _ q=>q) (λc q=>to c _ q) ta
def tThaw (H₀:Hp)(ts:TS):TS:=λD σ H=>ts D σ H∨∃ a o kvs,H₀ a=none/\H a=some (.frz o (.dT kvs))/\ts D σ (upd H a (.dT kvs))
theorem ps_thaw {st:Stmt}{ts:TS}(h:PS X st ts):PS X st (tThaw X.H₀ ts):=by
 intro pins s σ H D I q
 rcases q with q | ⟨a,o,kvs,h0,e,q⟩
 ·exact h pins s σ H D I q
 ·exact h pins s σ _ D (I.thaw e h0) q
end
theorem z45 {H:Hp}{td:Addr}{kvs:List (List Key×V)}{R:It->Hp->Prop}(d:H td=some (.dT kvs)∨∃ o,H td=some (.frz o (.dT kvs)))
  (h:∀ o H',H' td=some (.frz o (.dT kvs))->(∀ b,b≠td->H' b=H b)->R (Itd td o) H'):∃ a kvs',V.ref td=.ref a/\((H a=some (.dT kvs')/\∀ o,R (Itd a o) (upd H a (.frz o (.dT kvs'))))∨∃ o,H a=some (.frz o (.dT kvs'))/\R (Itd a o) H):=by
 refine ⟨td,kvs,rfl,?_⟩
 rcases d with e | ⟨o,e⟩
 ·exact .inl ⟨e,λo=>h o _ q01 λb nb=>q07 nb⟩
 ·exact .inr ⟨o,e,h o H e λ_ _=>rfl⟩
theorem qY3 {H₀ H:Hp}{td:Addr}{kvs:List (List Key×V)}{ts:TS}{D:Ends}{σ:St}(h0:H₀ td=none)(d:H td=some (.dT kvs)∨∃ o,H td=some (.frz o (.dT kvs)))
  (h:∀ H',H' td=some (.dT kvs)->(∀ b,b≠td->H' b=H b)->ts D σ H'):tThaw H₀ ts D σ H:=by
 rcases d with e | ⟨o,e⟩
 ·exact .inl (h H e λ_ _=>rfl)
 ·exact .inr ⟨td,o,kvs,h0,e,h _ q01 λb nb=>q07 nb⟩
theorem put_len {κ:Type}[DecidableEq κ](kvs:List (κ×V))(k:κ)(v:V):(qj4 kvs k v).length<=kvs.length + 1:=by
 unfold qj4
 split
 ·rw [List.length_map]; omega
 ·rw [List.length_append]; exact Nat.le_refl _
theorem Same.but {H H1 H2:Hp}{td:Addr}(s:Same H H1)(h0:H td=none)(h:∀ b,b≠td->H2 b=H1 b):Same H H2:=λb o e=>by
 rw [h b (λw=>by rw [w,h0] at e; cases e)]
 exact s b o e
theorem Tups.but {H1 H2:Hp}{td:Addr}{rs:List Addr}{ks:List (List Key)}(t:Tups H1 rs ks)(hd:∀ xs,H1 td≠some (.tup xs))(h:∀ b,b≠td->H2 b=H1 b):Tups H2 rs ks:=⟨t.1,λi r k a b=>by
 have e:=t.2 i r k a b
 rw [h r (λw=>by rw [w] at e; exact hd _ e)]
 exact e⟩
theorem z90 {i:Nat}{σ:St}{H:Hp}{td:Addr}{kvs:List (List Key×V)}{R:It->Hp->Prop}(hσ:qE8 i σ H λv H1=>v=.ref td/\H1=H)(d:H td=some (.dT kvs)∨∃ o,H td=some (.frz o (.dT kvs)))
  (h:∀ o H',H' td=some (.frz o (.dT kvs))->(∀ b,b≠td->H' b=H b)->R (Itd td o) H'):iDict (qE8 i) σ H R:=by
 obtain ⟨v,e,rfl,_⟩:=hσ
 exact ⟨_,e,z45 d h⟩
end L2
namespace L2
open PySem PySem.Spec PyProof.Rows
def Itel (K:PySem.W.Frag)(a:Addr):It :=
 ⟨λi H=>∃ xs x,SqL K H a xs/\xs[i]? = some x,λi H v H'=>∃ T x,v=.ref T/\H T=none/\H'=upd H T (.tup [.int i,x])/\∀ xs,SqL K H a xs->xs[i]? = some x,λi H=>∃ xs,SqL K H a xs/\xs.length<=i⟩
section
variable {P:Program}{w:World}{K:PySem.W.Frag}
def EnSl (e it a:Addr)(i:Nat)(h:Heap):Prop:=(∃ old,IsEnum h e it i old)/\h.IsListIter it a i
theorem qJ1 {elts:List Expr}{k:Nat}{pos:Pos}(e it a:Addr)(hei:e≠it):Turn P w K (.Tuple elts k pos) (Itel K a) [e,it] e (EnSl e it a) where
 mem:=by simp
 obj:=λi h st b hb=>by
  obtain ⟨⟨old,he⟩,st⟩:=st
  rcases List.mem_cons.mp hb with rfl | hb
  ·exact ⟨_,he,λv q=>by cases q⟩
  ·rw [List.mem_singleton.mp hb]
   obtain ⟨o,e,c,d⟩:=st
   exact ⟨o,e,λv z=>by rw [d] at z; cases z⟩
 keep:=λi h h' st k=>by
  obtain ⟨⟨old,he⟩,st⟩:=st
  exact ⟨⟨old,k e (by simp) _ he⟩,st.at λo q=>k it (by simp) o q⟩
 item:=by
  intro X hP hw hK hc i pins s σ H E I hf st hg
  subst hP hw hK
  obtain ⟨xs,x,hq,hx⟩:=hg
  obtain ⟨its,rv,p,hz⟩:=I.list hq
  obtain ⟨u,hu,ru⟩:=rv.get hx
  have nai:a≠it:=λz=>by
   obtain ⟨o,n,e1,c1,_⟩:=p
   obtain ⟨o2,e2,c2,_⟩:=st.2
   rw [z,e2] at e1
   cases e1
   rw [c2] at c1
   exact absurd c1 (by decide)
  have nea:e≠a:=λz=>by
   obtain ⟨o,n,e1,c1,_⟩:=p
   obtain ⟨old,e2⟩:=st.1
   rw [<- z,e2] at e1
   cases e1
   exact absurd (show Value.type "enumerate" = Value.type "list" from c1) (by decide)
  have W:=WalksT.enumerateD (A:=X.A) (Draws.list (prog:=X.prog) (w:=X.w) (A:=X.A.in1) (I.ok.hd hc) it a nai its.toArray) e hei (by simp [hei,nea]) (by simp)
  have il:i < its.toArray.size:=by simpa using (List.getElem?_eq_some_iff.mp hu).1
  refine W.item i s _ _ il ⟨st.1,st.2,p.isList⟩ λT vals h' tk hv hT hq' mid kp=>⟨_,rfl,?_⟩
  refine W.go elts k pos i T { s with heap:=h',toks:=tk } _ _ mid λh'' st' kp'=>?_
  obtain ⟨t,y,hy,rfl⟩:=hv
  have ey:y=u:=by
   have:its[i]? = some y:=by simpa using hy
   rw [hu] at this
   cases this
   rfl
  subst ey
  have nT:T∉[e,it]:=W.apart i T h' mid
  have hq2:h''.IsTuple T #[Value.int (i:Int) t,y]:=by
   obtain ⟨o,h1,r⟩:=hq'
   exact ⟨o,kp' T o nT h1,r⟩
  have fr:H T=none:=I.hok.fresh hT
  have I1:Inv X pins σ (upd H T (.tup [.int i,x])) { s with heap:=h'',toks:=tk }:=by
   refine I.turnLaid (fp:=[e,it]) hf (λb o hb q=>kp' b o hb (kp b o hb q)) hT nT ?_
   exact ⟨by show 2<=sizeLine; rw [sizeLine_eq]; omega,_,.cons ⟨t,rfl⟩ (.cons ru .nil),hq2⟩
  refine ⟨.ref T,_,I1,rfl,⟨T,x,rfl,fr,rfl,λys hy=>by rw [I.list_inj hy hq]; exact hx⟩,⟨st'.1,st'.2.1⟩,λb hb=>?_⟩
  have nb:b≠T:=λq=>nT (q ▸ hb)
  rw [q07 nb]
  exact (hf b hb).1
 done:=by
  intro X hP hw hK hc i pins s σ H E I hf st hg
  subst hP hw hK
  obtain ⟨xs,hq,hx⟩:=hg
  obtain ⟨its,rv,p,hz⟩:=I.list hq
  obtain ⟨⟨old,he⟩,st⟩:=st
  have hl:=rv.length
  have hT:s.TypeIs (.ref e) "enumerate" := ⟨_,he,rfl⟩
  unfold pyNext
  refine wpAny_bind (wpAny_attempt (wpAny_callSpecial?_slot (name:=Str.ofString "__next__") hT F.slot_enumerate_next
   (wpAny_call_entry F.slot_enumerate_next hT F.entry_enumerate_next ?_ (F.args_enumerate_next_1 _))))
  show wpAny _ _ (field (.ref e) 2 >>= _) _ _ _
  refine wpAny_bind (wpAny_field he rfl (x:=.ref it) rfl ?_)
  refine wpAny_bind (wpAny_nextOf_list_end (I.ok.hd hc) st p.isList (by simp; omega) λh' y he' hx'=>?_)
  obtain ⟨o,ho,hcl⟩:=hx'
  refine wpAny_bind (wpAny_isInstance (T := "StopIteration") (b:=true) ⟨o,ho,hcl⟩ isSubtype_stop ?_)
  exact wpAny_pure ⟨rfl,I.turnedL (fp:=[e,it]) (t':=s.toks) hf λb o hb q=>he' b o (λz=>hb (by simp [z])) q⟩
 self:=λA i s Q E st h=>by
  obtain ⟨⟨old,he⟩,_⟩:=st
  exact wpAny_pyIter_enum he h
end
section
variable {X:Cx}
def z89 (K:PySem.W.Frag)(ta:TA):TI:=λσ H R=>ta σ H λvs H1=>∃ a,vs=[.ref a]/\(∃ xs,SqL K H1 a xs)/\R (Itel K a) H1
theorem qf2 {elts:List Expr}{k:Nat}{tp:Pos}{a:Expr}{ta:TA}{p pos:Pos}(hg:Gl X "enumerate") (hm:X.mg "enumerate" = none) (ha:PA X [a] ta) (hs:starEach [a] X.env=[(false,eval a X.env)]:=by rfl) :
  PI X (.Tuple elts k tp) (.Call (.Name "enumerate" p) [a] [] pos) (z89 X.K ta):=by
 intro pins s σ H R I h
 refine Call_ (qi5 I hg hm boot_enumerate (PyProof.Rows.callWith_type1 (thn (ha pos pins s σ H _ I h) λus s1 ⟨vs,H1,I1,r1,q1⟩=>?_) hs rfl))
 obtain ⟨l,rfl,⟨xs,hq⟩,q⟩:=q1
 obtain ⟨u,rfl,ru⟩:=r1.one
 cases ru
 obtain ⟨its,rv,p',hz⟩:=I1.list hq
 refine call_enumerate_list p'.isList λh' he st hz kp=>wpAny_pyIter_enum (s:={ s1 with heap:=h' }) he ?_
 refine ⟨_,[s1.heap.objs.size + 1,s1.heap.objs.size],_,_,H1,rfl,I1.kept (t':=s1.toks) kp,qJ1 _ _ _ (Nat.succ_ne_self _),⟨⟨_,by simpa using he⟩,st⟩,λb hb=>?_,q⟩
 have hb':s1.heap.objs.size<=b:=by
  simp only [List.mem_cons,List.not_mem_nil,or_false] at hb
  rcases hb with rfl | rfl
  ·exact Nat.le_succ _
  ·exact Nat.le_refl _
 exact I1.fpOk hb' (I1.hok.fresh hb')
end
section
variable {K:PySem.W.Frag}{a:Addr}{xs:List V}
theorem qq3 {g:TG}{tb:TS}{D:Ends}{σ:St}{H:Hp}(Pv:Nat->St->Hp->Prop)(h0:Pv 0 σ H)(hl:∀ i σ H,i<=xs.length->Pv i σ H->SqL K H a xs)
  (hs:∀ i x T σ H,xs[i]? = some x->H T=none->Pv i σ H->g (.ref T) σ (upd H T (.tup [.int i,x])) λσ2 H2=>tb { D with nx:=Pv (i + 1),ct:=Pv (i + 1),bk:=D.nx } σ2 H2) (hd:∀ σ H,Pv xs.length σ H->D.nx σ H) :
  ∃ W:Nat->Nat->St->Hp->Prop,(∃ m,W 0 m σ H)/\∀ i m σ H,W i m σ H ->
   ((Itel K a).stop i H/\D.nx σ H)∨((Itel K a).go i H/\∃ N:St->Hp->Prop,(∀ σ' H',N σ' H'->∃ m',m' < m/\W (i + 1) m' σ' H')/\∀ v H',(Itel K a).yld i H v H'->g v σ H' λσ2 H2=>tb { D with nx:=N,ct:=N,bk:=D.nx } σ2 H2):=by
 refine ⟨λi m σ H=>m=xs.length - i/\i<=xs.length/\Pv i σ H,⟨xs.length,by simp,Nat.zero_le _,h0⟩,?_⟩
 rintro i m σ H ⟨rfl,hi,p⟩
 have hq:=hl i σ H hi p
 by_cases hlt:i < xs.length
 ·refine .inr ⟨⟨xs,xs[i],hq,List.getElem?_eq_getElem hlt⟩,Pv (i + 1),λσ' H' p'=>⟨xs.length - (i + 1),by omega,rfl,hlt,p'⟩,λv H' y=>?_⟩
  obtain ⟨T,x,rfl,hT,rfl,e⟩:=y
  exact hs i x T σ H (e xs hq) hT p
 ·have e:i=xs.length:=by omega
  subst e
  exact .inl ⟨⟨xs,hq,Nat.le_refl _⟩,hd σ H p⟩
theorem qv9 {g:TG}{tt:TT}{tb:TBd}{σ0:St}{H0:Hp}{Q:St->Hp->Prop}(Pv:Nat->St->Hp->Prop)(h0:Pv 0 σ0 H0)(hl:∀ i σ H,i<=xs.length->Pv i σ H->SqL K H a xs)
  (hs:∀ i x T σ H,xs[i]? = some x->H T=none->Pv i σ H->qX3 g tt tb (Pv (i + 1)) (.ref T) σ (upd H T (.tup [.int i,x]))) (hd:∀ σ H,Pv xs.length σ H->Q σ H) :
  qB7 (Itel K a) g tt tb σ0 H0 Q:=by
 refine ⟨λi m σ H=>m=xs.length - i/\i<=xs.length/\Pv i σ H,⟨xs.length,by simp,Nat.zero_le _,h0⟩,?_⟩
 rintro i m σ H ⟨rfl,hi,r⟩
 have hq:=hl i σ H hi r
 by_cases hlt:i < xs.length
 ·refine .inr ⟨⟨xs,xs[i],hq,List.getElem?_eq_getElem hlt⟩,Pv (i + 1),λσ' H' r=>⟨xs.length - (i + 1),by omega,rfl,hlt,r⟩,λv H' y=>?_⟩
  obtain ⟨T,x,rfl,hT,rfl,e⟩:=y
  exact hs i x T σ H (e xs hq) hT r
 ·have e:i=xs.length:=by omega
  subst e
  exact .inl ⟨⟨xs,hq,Nat.le_refl _⟩,hd σ H r⟩
end
end L2
namespace L2
open PySem
theorem qk7 {α β:Type}{f g:α->Option β}:∀{l:List α},(∀ a∈l,f a=g a)->l.filterMap f=l.filterMap g
 | [],_=>rfl
 | a :: r,h=>by rw [List.filterMap_cons,List.filterMap_cons,h a List.mem_cons_self,qk7 λb hb=>h b (List.mem_cons_of_mem _ hb)]
def opB (rs:List Str)(q:Nat):Bool:=decide (0 < q29 rs q 110 q 110) && decide (0 < q29 rs q 121 q 121)
def akB (rs:List Str)(q r:Nat):Bool:=decide (q29 rs q 110 r 121=0) && decide (q29 rs q 121 r 110=0)
def apB (rs:List Str)(q r:Nat):Bool:=decide (q29 rs q 110 r 110=0) && decide (q29 rs q 121 r 121=0)
def alO (rs:List Str)(q r:Nat):Option Nat:=if akB rs q r=true then some 121 else if apB rs q r=true then some 110 else none
def tgB (rs:List Str)(q r:Nat):Bool:=akB rs q r || apB rs q r
def qg0 (rs:List Str)(l r:Nat):Option (Nat×Nat):=(alO rs l r).map λa=>(r,a)
def bun (rs:List Str)(n l:Nat):List (Nat×Nat):=(List.range n).filterMap (qg0 rs l)
def qr3 (rs:List Str)(l:Nat):Bool:=opB rs l && (List.range l).all λq=>!tgB rs q l
def q32 (rs:List Str)(n:Nat):List Nat:=(List.range n).filter (qr3 rs)
def bnl (rs:List Str)(n:Nat):List (List (Nat×Nat)):=(q32 rs n).map (bun rs n)
theorem cnt_zero {rs:List Str}{q a r b:Nat}:q29 rs q a r b=0↔∀ x∈rs,¬ (ch x q=a/\ch x r=b):=by
 constructor
 ·intro h x hx e
  have:=cnt_pos.mpr ⟨x,hx,e⟩
  omega
 ·intro h
  refine Nat.eq_zero_of_not_pos λw=>?_
  obtain ⟨x,hx,e⟩:=cnt_pos.mp w
  exact h x hx e
section
variable {rs:List Str}{n:Nat}(hrs:∀ x∈rs,Row n x)
include hrs
theorem za0 {q r:Nat}(hq:q < n)(hr:r < n):akB rs q r=true↔∀ x∈rs,ch x q=ch x r:=by
 unfold akB
 rw [Bool.and_eq_true,decide_eq_true_iff,decide_eq_true_iff,cnt_zero,cnt_zero]
 constructor
 ·rintro ⟨h1,h2⟩ x hx
  have b1:=(hrs x hx).bin q hq
  have b2:=(hrs x hx).bin r hr
  have h1:=h1 x hx
  have h2:=h2 x hx
  omega
 ·intro h
  refine ⟨λx hx e=>?_,λx hx e=>?_⟩ <;> have:=h x hx <;> omega
theorem ap_iff {q r:Nat}(hq:q < n)(hr:r < n):apB rs q r=true↔∀ x∈rs,¬ ch x q=ch x r:=by
 unfold apB
 rw [Bool.and_eq_true,decide_eq_true_iff,decide_eq_true_iff,cnt_zero,cnt_zero]
 constructor
 ·rintro ⟨h1,h2⟩ x hx
  have b1:=(hrs x hx).bin q hq
  have b2:=(hrs x hx).bin r hr
  have h1:=h1 x hx
  have h2:=h2 x hx
  omega
 ·intro h
  refine ⟨λx hx e=>?_,λx hx e=>?_⟩ <;> have:=h x hx <;> omega
theorem qf6 {q r:Nat}(hq:q < n)(hr:r < n):tgB rs q r=true↔(∀ x∈rs,ch x q=ch x r)∨∀ x∈rs,¬ ch x q=ch x r:=by
 unfold tgB
 rw [Bool.or_eq_true,za0 hrs hq hr,ap_iff hrs hq hr]
theorem qN2 {q:Nat}(hq:q < n):tgB rs q q=true:=(qf6 hrs hq hq).mpr (.inl λ_ _=>rfl)
theorem qj7 {q r:Nat}(hq:q < n)(hr:r < n)(h:tgB rs q r=true):tgB rs r q=true:=by
 rw [qf6 hrs hr hq]
 rcases (qf6 hrs hq hr).mp h with h | h
 ·exact .inl λx hx=>(h x hx).symm
 ·exact .inr λx hx e=>h x hx e.symm
theorem qh3 {q r s:Nat}(hq:q < n)(hr:r < n)(hs:s < n)(h:tgB rs q r=true)(h':tgB rs r s=true):tgB rs q s=true:=by
 rw [qf6 hrs hq hs]
 rcases (qf6 hrs hq hr).mp h with h | h <;> rcases (qf6 hrs hr hs).mp h' with h' | h'
 ·exact .inl λx hx=>(h x hx).trans (h' x hx)
 ·exact .inr λx hx e=>h' x hx ((h x hx).symm.trans e)
 ·exact .inr λx hx e=>h x hx (e.trans (h' x hx).symm)
 ·refine .inl λx hx=>?_
  have b1:=(hrs x hx).bin q hq
  have b2:=(hrs x hx).bin r hr
  have b3:=(hrs x hx).bin s hs
  have h1:=h x hx
  have h2:=h' x hx
  omega
omit hrs in
theorem op_iff {q:Nat}:opB rs q=true↔(∃ x∈rs,ch x q=110)/\∃ x∈rs,ch x q=121:=by
 unfold opB
 rw [Bool.and_eq_true,decide_eq_true_iff,decide_eq_true_iff,cnt_pos,cnt_pos]
 constructor
 ·rintro ⟨⟨x,hx,e,_⟩,y,hy,e',_⟩
  exact ⟨⟨x,hx,e⟩,y,hy,e'⟩
 ·rintro ⟨⟨x,hx,e⟩,y,hy,e'⟩
  exact ⟨⟨x,hx,e,e⟩,y,hy,e',e'⟩
theorem qn7 {q r:Nat}(hq:q < n)(hr:r < n)(h:tgB rs q r=true)(ho:opB rs q=true):opB rs r=true:=by
 obtain ⟨⟨x,hx,e⟩,y,hy,e'⟩:=op_iff.mp ho
 have bx:=(hrs x hx).bin r hr
 have bY:=(hrs y hy).bin r hr
 rw [op_iff]
 rcases (qf6 hrs hq hr).mp h with h | h
 ·have h1:=h x hx
  have h2:=h y hy
  exact ⟨⟨x,hx,by omega⟩,y,hy,by omega⟩
 ·have h1:=h x hx
  have h2:=h y hy
  exact ⟨⟨y,hy,by omega⟩,x,hx,by omega⟩
omit hrs in
theorem alO_none {q r:Nat}:alO rs q r=none↔tgB rs q r=false:=by
 unfold alO tgB
 cases akB rs q r <;> cases apB rs q r <;> simp
omit hrs in
theorem low_iff {l:Nat}:qr3 rs l=true↔opB rs l=true/\∀ q,q < l->tgB rs q l=false:=by
 unfold qr3
 rw [Bool.and_eq_true,List.all_eq_true]
 constructor
 ·rintro ⟨h1,h2⟩
  exact ⟨h1,λq hq=>by simpa using h2 q (List.mem_range.mpr hq)⟩
 ·rintro ⟨h1,h2⟩
  exact ⟨h1,λq hq=>by simpa using h2 q (List.mem_range.mp hq)⟩
theorem low_of:∀(q:Nat),q < n->opB rs q=true->∃ l,l<=q/\qr3 rs l=true/\tgB rs l q=true:=by
 intro q
 induction q using Nat.strongRecOn with
 | ind q ih =>
  intro hq ho
  by_cases h:∃ r,r < q/\tgB rs r q=true
  ·obtain ⟨r,rq,tr⟩:=h
   have hr:r < n:=Nat.lt_trans rq hq
   obtain ⟨l,l1,l2,l3⟩:=ih r rq hr (qn7 hrs hq hr (qj7 hrs hr hq tr) ho)
   exact ⟨l,by omega,l2,qh3 hrs (by omega) hr hq l3 tr⟩
  ·refine ⟨q,Nat.le_refl _,low_iff.mpr ⟨ho,λr hr=>?_⟩,qN2 hrs hq⟩
   exact Bool.eq_false_iff.mpr λw=>h ⟨r,hr,w⟩
theorem qs4 {i:Nat}(hi:i < n):qr3 rs i=true↔opB rs i=true/\¬ ∃ l,l < i/\qr3 rs l=true/\tgB rs l i=true:=by
 constructor
 ·intro h
  obtain ⟨h1,h2⟩:=low_iff.mp h
  refine ⟨h1,λ⟨l,l1,_,l3⟩=>?_⟩
  rw [h2 l l1] at l3
  cases l3
 ·rintro ⟨h1,h2⟩
  obtain ⟨l,l1,l2,l3⟩:=low_of hrs i hi h1
  by_cases e:l=i
  ·rw [<- e]; exact l2
  ·exact absurd ⟨l,by omega,l2,l3⟩ h2
def q33 (rs:List Str)(n k:Nat):List Nat:=(List.range n).filter λr=>opB rs r && (List.range k).all λl=>!tgB rs l r
omit hrs in
theorem left_mem {k r:Nat}:r∈q33 rs n k↔r < n/\opB rs r=true/\∀ l,l < k->tgB rs l r=false:=by
 unfold q33
 rw [List.mem_filter,List.mem_range,Bool.and_eq_true,List.all_eq_true]
 constructor
 ·rintro ⟨h0,h1,h2⟩
  exact ⟨h0,h1,λq hq=>by simpa using h2 q (List.mem_range.mpr hq)⟩
 ·rintro ⟨h0,h1,h2⟩
  exact ⟨h0,h1,λq hq=>by simpa using h2 q (List.mem_range.mp hq)⟩
omit hrs in
theorem qC7 (k:Nat):(q33 rs n k).Pairwise (· < ·):=List.Pairwise.filter _ List.pairwise_lt_range
omit hrs in
theorem qd2 (rs:List Str)(n:Nat):(q32 rs n).length<=n:=by
 have:=List.length_filter_le (qr3 rs) (List.range n)
 rw [List.length_range] at this
 exact this
omit hrs in
theorem bun_len (rs:List Str)(n l:Nat):(bun rs n l).length<=n:=by
 have:=List.length_filterMap_le (qg0 rs l) (List.range n)
 rw [List.length_range] at this
 exact this
omit hrs in
theorem qi4 (rs:List Str)(n:Nat):q32 rs (n + 1)=q32 rs n ++ (if qr3 rs n=true then [n] else []):=by
 unfold q32
 rw [List.range_succ,List.filter_append]
 congr 1
 cases h:qr3 rs n <;> simp [h]
omit hrs in
theorem qA2 {k:Nat}:∀{m:Nat},k<=m->(∀ q,k<=q->q < m->qr3 rs q=false)->q32 rs m=q32 rs k:=by
 intro m
 induction m with
 | zero =>
  intro h _
  have e:k=0:=by omega
  rw [e]
 | succ m ih =>
  intro h f
  by_cases e:k=m + 1
  ·rw [e]
  ·rw [qi4,f m (by omega) (by omega),ih (by omega) λq a b=>f q a (by omega)]
   simp
theorem qG8 {k q:Nat}(hq:q < n)(kq:k<=q)(h:qr3 rs q=true):q∈q33 rs n k:=by
 obtain ⟨h1,h2⟩:=low_iff.mp h
 exact left_mem.mpr ⟨hq,h1,λl hl=>h2 l (by omega)⟩
theorem qT1 {k:Nat}(hk:k<=n)(h:q33 rs n k=[]):q32 rs n=q32 rs k:=by
 refine qA2 hk λq a b=>Bool.eq_false_iff.mpr λw=>?_
 have:=qG8 hrs b a w
 rw [h] at this
 cases this
theorem qT0 {k low:Nat}{qf8:List Nat}(hk:k<=n)(h:q33 rs n k=low :: qf8) :
  low < n/\k<=low/\qr3 rs low=true/\q32 rs (low + 1)=q32 rs k ++ [low]/\(q33 rs n k).filter (λq=>!akB rs low q && !apB rs low q)=q33 rs n (low + 1) /\
  (q33 rs n k).filterMap (qg0 rs low)=bun rs n low:=by
 have hm:low∈q33 rs n k:=by rw [h]; exact List.mem_cons_self
 obtain ⟨ln,lo,lf⟩:=left_mem.mp hm
 have least:∀ q,q∈q33 rs n k->low<=q:=λq hq=>by
  have s:=qC7 (rs:=rs) (n:=n) k
  rw [h] at s hq
  rcases List.mem_cons.mp hq with e | hq
  ·omega
  ·exact Nat.le_of_lt ((List.pairwise_cons.mp s).1 q hq)
 have kl:k<=low:=by
  refine Nat.le_of_not_lt λw=>?_
  have:=lf low w
  rw [qN2 hrs ln] at this
  cases this
 have up:∀ q,q < n->opB rs q=true->q < low->∃ l,l < k/\tgB rs l q=true:=λq hq ho ql=>by
  refine Classical.byContradiction λw=>?_
  have:=least q (left_mem.mpr ⟨hq,ho,λl hl=>Bool.eq_false_iff.mpr λz=>w ⟨l,hl,z⟩⟩)
  omega
 have ll:qr3 rs low=true:=by
  refine low_iff.mpr ⟨lo,λq hq=>Bool.eq_false_iff.mpr λw=>?_⟩
  have qn:q < n:=by omega
  obtain ⟨l,l1,l2⟩:=up q qn (qn7 hrs ln qn (qj7 hrs qn ln w) lo) hq
  have:=lf l l1
  rw [qh3 hrs (by omega) qn ln l2 w] at this
  cases this
 refine ⟨ln,kl,ll,?_,?_,?_⟩
 ·rw [qi4,ll,if_pos rfl,qA2 kl λq a b=>Bool.eq_false_iff.mpr λw=>?_]
  have:=least q (qG8 hrs (by omega) a w)
  omega
 ·unfold q33
  rw [List.filter_filter]
  refine List.filter_congr λr hr=>?_
  have rn:=List.mem_range.mp hr
  rw [Bool.eq_iff_iff]
  have e:(!akB rs low r && !apB rs low r) = !tgB rs low r:=by unfold tgB; cases akB rs low r <;> cases apB rs low r <;> rfl
  rw [e,Bool.and_eq_true,Bool.and_eq_true,Bool.and_eq_true,List.all_eq_true,List.all_eq_true]
  constructor
  ·rintro ⟨h1,h2,h3⟩
   refine ⟨h2,λl hl=>?_⟩
   have hl:=List.mem_range.mp hl
   by_cases e1:l < k
   ·exact h3 l (List.mem_range.mpr e1)
   by_cases e2:l=low
   ·rw [e2]; exact h1
   have lN:l < n:=by omega
   cases z:tgB rs l r with
   | false=>rfl
   | true =>
    obtain ⟨l',a,b⟩:=up l lN (qn7 hrs rn lN (qj7 hrs lN rn z) h2) (by omega)
    have:=h3 l' (List.mem_range.mpr a)
    rw [qh3 hrs (by omega) lN rn b z] at this
    cases this
  ·rintro ⟨h1,h2⟩
   exact ⟨h2 low (List.mem_range.mpr (Nat.lt_succ_self _)),h1,λl hl=>h2 l (List.mem_range.mpr (by have:=List.mem_range.mp hl; omega))⟩
 ·unfold q33 bun
  rw [List.filterMap_filter]
  refine qk7 λr hr=>?_
  have rn:=List.mem_range.mp hr
  cases z:(opB rs r && (List.range k).all λl=>!tgB rs l r) with
  | true=>rfl
  | false =>
   show none=qg0 rs low r
   unfold qg0
   cases t:alO rs low r with
   | none=>rfl
   | some a =>
    exfalso
    have tg:tgB rs low r=true:=by
     cases y:tgB rs low r with
     | true=>rfl
     | false=>rw [alO_none.mpr y] at t; cases t
    have ro:=qn7 hrs ln rn tg lo
    rw [ro,Bool.true_and,Bool.eq_false_iff] at z
    refine z (List.all_eq_true.mpr λl hl=>?_)
    have hl:=List.mem_range.mp hl
    cases y:tgB rs l r with
    | false=>rfl
    | true =>
     have:=lf l hl
     rw [qh3 hrs (by omega) rn ln y (qj7 hrs ln rn tg)] at this
     cases this
theorem qX1 {q:Nat}(hq:q < n):akB rs q q=true:=(za0 hrs hq hq).mpr λ_ _=>rfl
theorem qI3 {l:Nat}(hl:l < n)(h:qr3 rs l=true):bun rs n l=(List.range (n - l)).filterMap λd=>qg0 rs l (l + d):=by
 unfold bun
 have e:List.range n=List.range l ++ (List.range (n - l)).map (l + ·):=by rw [<- List.range_add]; congr 1; omega
 rw [e,List.filterMap_append,List.filterMap_map]
 have z:(List.range l).filterMap (qg0 rs l)=[]:=by
  refine List.filterMap_eq_nil_iff.mpr λr hr=>?_
  have rl:=List.mem_range.mp hr
  unfold qg0
  have t:tgB rs l r=false:=Bool.eq_false_iff.mpr λw=>by
   have:=(low_iff.mp h).2 r rl
   rw [qj7 hrs hl (by omega) w] at this
   cases this
  rw [alO_none.mpr t]
  rfl
 rw [z,List.nil_append]
 rfl
theorem qI2 {l:Nat}(hl:l < n)(h:qr3 rs l=true):∃ tl,bun rs n l=(l,121) :: tl:=by
 rw [qI3 hrs hl h]
 have e:List.range (n - l)=0 :: (List.range (n - l - 1)).map Nat.succ:=by
  rw [show n - l=(n - l - 1) + 1 by omega,List.range_succ_eq_map]
  rfl
 rw [e,List.filterMap_cons]
 have:qg0 rs l (l + 0)=some (l,121):=by
  unfold qg0 alO
  rw [Nat.add_zero,if_pos (qX1 hrs hl)]
  rfl
 rw [this]
 exact ⟨_,rfl⟩
omit hrs in
theorem qD8 {l r a:Nat}(h:(r,a)∈bun rs n l):r < n/\alO rs l r=some a:=by
 obtain ⟨q,hq,e⟩:=List.mem_filterMap.mp h
 unfold qg0 at e
 cases z:alO rs l q with
 | none=>rw [z] at e; cases e
 | some b =>
  rw [z] at e
  cases e
  exact ⟨List.mem_range.mp hq,z⟩
omit hrs in
theorem qS2 {l r a:Nat}(hr:r < n)(h:alO rs l r=some a):(r,a)∈bun rs n l:=by
 refine List.mem_filterMap.mpr ⟨r,List.mem_range.mpr hr,?_⟩
 unfold qg0
 rw [h]
 rfl
end
end L2
namespace L2
open PySem PySem.Spec PyProof.Rows
section
variable {X:Cx}{elt iter tg:Expr}{ifs:List Expr}{qf8:List Comprehension}{scope:Scope}{pos:Pos}{N':List Str}{fm:List (Option Nat)}{wi:TI}{g:TG}{tt:TT}{tb:Addr->TBd}
end
end L2
namespace PySem
open Sem (wp)
theorem qA8:typeLookup (.type "list") "keys" = pure none:=am_miss_of_fast (by kernel_rfl)
theorem qi6 {prog:Program}{w:World}{A:Around}{E:Value->Shared->Prop}{s:Shared}{a:Addr}{o:Obj}{xs:Array Value}{k:Nat}{name:Str}{Q:Option Value->Shared->Prop}
  (hx:s.heap.get? a=some o) (hc:o.cls=.type "list") (hdat:o.data=.seq xs k) (hd:o.dict=none) (hmiss:typeLookup (.type "list") name=pure none) (hname:(["__module__", "__name__", "__qualname__", "__doc__", "__annotations__"]:List Str).contains name=false) (hA:A.handled=none)
  (h:∀ h' tk e,Heap.NewExcOf s.heap h' e "AttributeError" -> Q none { s with heap:=h',toks:=tk }) (hsz:name.length + 100<=sizeLine:=by size_fits) :
  wpAny (model prog w) A (getAttr? (.ref a) name) Q E s:=by
 obtain ⟨c,dct,dat,sl⟩:=o
 simp only at hc hdat hd
 subst hc hdat hd
 obtain ⟨hp,g,d,tk,os⟩:=s
 have hT:∀ tk',(⟨hp,g,d,tk',os⟩:Shared).TypeIs (.ref a) "list" := λ_=>⟨_,hx,rfl⟩
 have f1:=sub_AttributeError
 have f3:=F.slot_list_getattribute.lookup
 have f4:=F.slot_list_getattribute.bind (.ref a)
 have f5:=am_list_getattr_none
 unfold getAttr? getAttrBy? getAttrBy
 repeat (any_goals (first | assumption | exact hT _ | ((with_reducible show wpAny _ _ (call (Value.builtin "list.__getattribute__") _ _) _ _ _); refine call_meets F.slot_list_getattribute (hT _) am_entry_list_getattribute (F.args_list_getattribute_2 _ _) (meets_getattribute_miss_list a xs k sl name _ hmiss hname hsz) ⟨hx,hA,λh' tk' e hx'=>?_⟩) | wp_step))
 obtain ⟨t',u',he⟩:=hx'.there
 show wpAny _ _ (getattributeRaised _ _ _ _ _ _ _) _ _ _
 unfold getattributeRaised
 repeat (any_goals (first | assumption | wp_step))
 exact h _ _ _ hx'.of
theorem qA7:entryFor table "dict.update.loop" = some Builtin.«dict.update.loop» := entryFor_of_tree (by kernel_rfl)
theorem qh8:plainId "dict.update.loop" = true:=by decide +kernel
section
variable {prog:Program}{w:World}{K:Type} [DecidableEq K] {knd:KeyKind prog w K}{A:Around}{R:Result->Shared->Prop}{I:Addr}{fp wr:List Addr}{G:Array GenState->Array GenState->Prop}{n:Nat}{P:Nat->Value->Prop}{St:Nat->Shared->Prop}
theorem qb7 (W:WalksS prog w A.in1 I fp wr G n P St){D:Addr}(hDf:D∉fp){h0:Heap}{kvs more:List (K×Value)}(hn:more.length=n)(hsz:kvs.length + more.length<=sizeLine)
  (hitem:∀ i v,P i v->∃ r o k key val m,v=.ref r/\r≠D/\r∉wr/\h0.get? r=some o/\o.cls=.type "tuple" /\ o.data=.seq #[key,val] m/\more[i]? = some (k,val)/\knd.is k key=true) :
  ∀(k i:Nat) (s:Shared),n - i=k->i<=n->St i s->s.heap.DictOf knd D (merged kvs (more.take i))->(∀ b o,b≠D->b∉wr->h0.get? b=some o->s.heap.get? b=some o) ->
  (∀ s',Moved (D :: wr) G s s'->s'.heap.DictOf knd D (merged kvs more)->R (.ok (.ret .none)) s')->codeAny (model prog w) A (.builtin "dict.update.loop" ⟨[.ref D,.ref I,rawInt i,.none],[]⟩) R s:=by
 have hDw:D∉wr:=λh=>hDf (W.sub _ h)
 have hsub:∀ b∈wr,b∈D :: wr:=λb hb=>List.mem_cons_of_mem _ hb
 intro k
 induction k with
 | zero =>
  intro i s hk hi hst hD keep hR
  have hin:i=n:=by omega
  subst hin
  refine codeAny_builtin qA7 ?_
  rw [Around.under_plainId qh8 _]
  show wpAny _ A.in1 (pyNext (.ref I) >>= _) _ _ s
  refine wpAny_bind (W.done s _ _ hst λs' hm=>?_)
  show wpAny _ A.in1 (Builtin.Dict.addKeywords D [] >>= _) _ _ s'
  refine wpAny_bind (wpAny_pure (wpAny_pure (hR s' (hm.mono hsub) ?_)))
  rw [<- hn,List.take_length] at hD
  obtain ⟨o,es,ep,ho,qf8⟩:=hD
  exact ⟨o,es,ep,hm.heap D _ hDw ho,qf8⟩
 | succ k ih =>
  intro i s hk hi hst hD keep hR
  have hlt:i < n:=by omega
  refine codeAny_builtin qA7 ?_
  rw [Around.under_plainId qh8 _]
  show wpAny _ A.in1 (pyNext (.ref I) >>= _) _ _ s
  refine wpAny_bind (W.item i s _ _ hlt hst λv s' hP hst' hm=>?_)
  obtain ⟨r,o,k',key,val,m,rfl,rD,rw',hr,hc,hd,hmore,hkey⟩:=hitem i v hP
  have hr':=hm.heap r _ rw' (keep r o rD rw' hr)
  have hD':s'.heap.DictOf knd D (merged kvs (more.take i)):=by
   obtain ⟨o,es,ep,ho,qf8⟩:=hD
   exact ⟨o,es,ep,hm.heap D _ hDw ho,qf8⟩
  show wpAny _ A.in1 (holding [Value.ref r] _ >>= _) _ _ s'
  refine wpAny_bind (wpAny_holding ?_)
  refine wpAny_bind (wpAny_tryCatch ?_)
  unfold Builtin.Dict.pairItems
  refine wpAny_bind (wpAny_typeOf ⟨o,hr',hc⟩ ?_)
  rw [if_pos (by decide)]
  refine wpAny_bind (wpAny_seqItems hr' hd (wpAny_pure ?_))
  show wpAny _ A.in1 (holding [key,val] (dictSet D key val)) _ _ s'
  have hmx:(merged kvs (more.take i)).length<=sizeLine:=by
   have e1:=merged_length_le kvs (more.take i)
   have e2:(more.take i).length<=more.length:=by rw [List.length_take]; omega
   omega
  refine wpAny_holding (wpAny_dictSet_pairs (hsz:=hmx) hkey hD' λh' hD2 hs=>?_)
  rw [<- merged_take_succ kvs more i (k',val) hmore] at hD2
  refine wpAny_pure ⟨plainId_quiet qh8 _,?_⟩
  show codeAny (model prog w) A (.builtin "dict.update.loop" ⟨[.ref D,.ref I,rawInt ((i:Int) + 1),.none],[]⟩) R _
  have ei:((i:Int) + 1)=((i + 1:Nat):Int):=by omega
  rw [ei]
  refine ih (i + 1) _ (by omega) hlt (W.frame _ s' _ _ hst' (Nat.le_succ _) λb hb o e=>?_) hD2 (λb o bD bw e=>?_) λs'' hm'' hD3=>?_
  ·rw [hs.2 b (λh:b=D=>hDf (by rw [<- h]; exact hb))]; exact e
  ·show h'.get? b=some o
   rw [hs.2 b bD]
   exact hm.heap b o bw (keep b o bD bw e)
  ·refine hR s'' (Moved.trans W.gtrans ((hm.mono hsub).then_heap (Nat.le_succ _) λb o hb e=>?_) hm'') hD3
   rw [hs.2 b (λh:b=D=>hb (by rw [h]; exact List.mem_cons_self))]; exact e
end
section
variable {prog:Program}{w:World}{K:Type} [DecidableEq K] {knd:KeyKind prog w K}{A:Around}{E:Value->Shared->Prop}{s:Shared}
theorem qq9 {l:Addr}{items:Array Value}{more:List (K×Value)}{Q:Value->Shared->Prop}(hh:A.handled=none)(hl:s.heap.IsList l items)(hnd:∀ o,s.heap.get? l=some o->o.dict=none)(hn:more.length=items.size)(hsz:more.length<=sizeLine)
  (hitem:∀(i:Nat) (v:Value),items[i]? = some v->∃ r o k key val m,v=.ref r/\s.heap.get? r=some o/\o.cls=.type "tuple" /\ o.data=.seq #[key,val] m/\more[i]? = some (k,val)/\knd.is k key=true)
  (h:∀ h' tk,h'.DictOf knd s.heap.objs.size (merged [] more)->(∀ b o,s.heap.get? b=some o->h'.get? b=some o)->Q (.ref s.heap.objs.size) { s with heap:=h',toks:=tk }) :
  wpAny (model prog w) A (call (.type "dict") [Value.ref l]) Q E s:=by
 refine callType_codes (Q₁:=λobj s₁=>obj=Value.ref s.heap.objs.size/\s₁={ s with heap:=s.heap.push { cls:=.type "dict",data:=.dict #[] } }) F.kt_called_dict (F.kt_typeCall_dict_1 _) F.entry_dict_init (kt_code_dict_new _ ⟨rfl,rfl⟩) ?_
 rintro obj s₁ ⟨rfl,rfl⟩
 have hnew:(s.heap.push { cls:=.type "dict",data:=.dict #[] }).DictOf knd s.heap.objs.size []:=Heap.DictOf.new s.heap
 have hl1:(s.heap.push { cls:=.type "dict",data:=.dict #[] }).IsList l items:=hl.push _
 refine ⟨hnew.typeIs,F.args_dict_init_2 _ _,?_⟩
 unfold Builtin.«dict.__init__»
 refine wpAny_bind ?_
 unfold Builtin.Dict.selfAndRest
 refine wpAny_bind (wpAny_notOrdered_dict hnew.typeIs ?_)
 show wpAny _ _ (pure (s.heap.objs.size,[Value.ref l])) _ _ _
 refine wpAny_pure ?_
 show wpAny _ _ (Builtin.Dict.updateFrom "dict.__init__" s.heap.objs.size (.ref l) [] .none) _ _ _
 unfold Builtin.Dict.updateFrom
 obtain ⟨ol,hol,hcl,nl,hdl⟩:=hl1
 refine wpAny_bind (wpAny_typeOf ⟨ol,hol,hcl⟩ ?_)
 rw [if_pos (by decide)]
 have hsz0:l < s.heap.objs.size:=by obtain ⟨o,ho,_⟩:=hl; exact Heap.lt_size ho
 have hdn:ol.dict=none:=by
  obtain ⟨o,ho,_⟩:=hl
  have:=(Heap.get?_push_of_some { cls:=.type "dict",data:=.dict #[] } ho).symm.trans hol
  cases this
  exact hnd _ ho
 refine wpAny_bind (qi6 hol hcl hdl hdn qA8 (by decide) (by simp [hh]) λh1 tk1 e1 ne=>?_)
 have kp:∀ b o,s.heap.get? b=some o->h1.get? b=some o:=λb o e=>ne.keeps b o (Heap.get?_push_of_some _ e)
 show wpAny _ _ (rule _ >>= _) _ _ _
 refine wpAny_bind (wpAny_rule ?_)
 have hl2:h1.IsList l items:=⟨ol,ne.keeps _ _ hol,hcl,nl,hdl⟩
 refine wpAny_bind (wpAny_pyIter_list (s:={ s with heap:=h1,toks:=tk1 }) hl2 ?_)
 refine wpAny_pure ⟨plainId_quiet qh8 _,?_⟩
 have hd1:h1.DictOf knd s.heap.objs.size []:=by
  obtain ⟨o,es,ep,ho,qf8⟩:=hnew
  exact ⟨o,es,ep,ne.keeps _ _ ho,qf8⟩
 have lt1:l < h1.objs.size:=Heap.lt_size (ne.keeps _ _ hol)
 have Dlt:s.heap.objs.size < h1.objs.size:=by obtain ⟨o,es,ep,ho,_⟩:=hd1; exact Heap.lt_size ho
 have hneI:l≠h1.objs.size:=Nat.ne_of_lt lt1
 have hDf:s.heap.objs.size∉[h1.objs.size,l]:=by
  simp only [List.mem_cons,List.mem_singleton,List.not_mem_nil,or_false,not_or]
  exact ⟨Nat.ne_of_lt Dlt,Nat.ne_of_gt hsz0⟩
 have hh3:A.in1.in1.handled=none:=by simp [hh]
 refine qb7 (knd:=knd) (A:=A.in1) ((Walks.list hh3 h1.objs.size l hneI items).toS) (D:=s.heap.objs.size) hDf (h0:=s.heap) (kvs:=[]) (more:=more) hn (by simpa using hsz) (λi v hv=>?_) (items.size - 0) 0 _ rfl (Nat.zero_le _) ⟨⟨_,Heap.get?_push_size _ rfl,rfl,rfl⟩,hl2.push _⟩ ?_ (λb o _ _ e=>Heap.get?_push_of_some _ (kp b o e)) λs' hm hD=>?_
 ·obtain ⟨r,o,k,key,val,m,e1,e2,e3,e4,e5,e6⟩:=hitem i v (by simpa using hv)
  have rl:=Heap.lt_size e2
  exact ⟨r,o,k,key,val,m,e1,Nat.ne_of_lt rl,λz=>absurd (List.mem_singleton.mp z) (Nat.ne_of_lt (Nat.lt_trans rl Dlt)),e2,e3,e4,e5,e6⟩
 ·obtain ⟨o,es,ep,ho,qf8⟩:=hd1
  exact ⟨o,es,ep,Heap.get?_push_of_some _ ho,qf8⟩
 ·obtain ⟨h',g',d',tk',os'⟩:=s'
  have eg:g'=s.gens:=hm.gens
  have ed:d'=s.drawn:=hm.drawn
  have eo:os'=s.os:=hm.os
  subst eg; subst ed; subst eo
  refine ⟨rfl,h h' tk' hD λb o e=>?_⟩
  have bl:=Heap.lt_size e
  refine hm.heap b o ?_ (Heap.get?_push_of_some _ (kp b o e))
  simp only [List.mem_cons,List.mem_singleton,List.not_mem_nil,or_false,not_or]
  exact ⟨Nat.ne_of_lt bl,Nat.ne_of_lt (Nat.lt_trans bl Dlt)⟩
end
end PySem
namespace L2
open PySem PySem.Spec PyProof.Rows
theorem qe8:∀(more kvs:List (Key×V)),(qd8 kvs more).length<=kvs.length + more.length
 | [],kvs=>Nat.le_refl _
 | p :: r,kvs=>by
  show (qd8 (qj4 kvs p.1 p.2) r).length<=_
  have h1:=qe8 r (qj4 kvs p.1 p.2)
  have h2:=q99 kvs p.1 p.2
  rw [List.length_cons]
  omega
def qE0 (H:Hp)(rs:List Addr)(kvs:List (Key×V)):Prop:=rs.length=kvs.length/\∀(i:Nat) (r:Addr) (p:Key×V),rs[i]? = some r->kvs[i]? = some p->H r=some (.tup [kV p.1,p.2])
theorem qs2 {P:Program}{w:World}{H:Hp}{h:Heap}(ok:HOk P w H h):∀{rs:List Addr}{kvs:List (Key×V)},qE0 H rs kvs->∃ vs:List (Key×Value),KV kvs vs/\vs.length=rs.length /\
  ∀(i:Nat) (r:Addr),rs[i]? = some r->∃ o k key val m,h.get? r=some o/\o.cls=.type "tuple" /\ o.data=.seq #[key,val] m/\vs[i]? = some (k,val)/\(q40 P w).is k key=true
 | [],[],_=>⟨[],.nil,rfl,λi r e=>by cases e⟩
 | [],_ :: _,q=>by cases q.1
 | _ :: _,[],q=>by cases q.1
 | r :: rs,p :: kvs,q=>by
  obtain ⟨vs,kv,ln,f⟩:=qs2 ok (rs:=rs) (kvs:=kvs) ⟨Nat.succ.inj q.1,λi r p a b=>q.2 (i + 1) r p a b⟩
  have hr:=q.2 0 r p rfl rfl
  obtain ⟨z,its,rv,o,ho,hc,m,hd⟩:=(show ObjOk P w H h r (.tup [kV p.1,p.2]) from ok r _ hr)
  obtain ⟨u,us,rfl,ru,rus⟩:∃ u us,its=u :: us/\RelV (kV p.1) u/\Vals [p.2] us:=by
   cases rv with
   | cons a b=>exact ⟨_,_,rfl,a,b⟩
  obtain ⟨v,rfl,rv'⟩:=rus.one
  refine ⟨(p.1,v) :: vs,.cons ⟨rfl,rv'⟩ kv,by rw [List.length_cons,List.length_cons,ln],λi r' e=>?_⟩
  cases i with
  | zero =>
   cases e
   exact ⟨o,p.1,u,v,m,ho,hc,by simpa using hd,rfl,qK7 ru⟩
  | succ i =>
   obtain ⟨o',k,key,val,m',e1,e2,e3,e4,e5⟩:=f i r' e
   exact ⟨o',k,key,val,m',e1,e2,e3,e4,e5⟩
section
variable {X:Cx}
theorem qx5:∀{rs:List Addr}{its:List Value},Vals (rs.map V.ref) its->its=rs.map Value.ref
 | [],_,h=>by cases h; rfl
 | r :: rs,_,h=>by
  cases h with
  | cons a b =>
   rw [qx5 b]
   obtain rfl:_=Value.ref r:=a
   rfl
theorem qL8 (hc:X.calm=true):qj3 X (.type "dict") (λxs H Q=>∃(a:Addr) (rs:List Addr) (kvs:List (Key×V)),xs=[.ref a]/\SqL X.K H a (rs.map V.ref)/\qE0 H rs kvs/\∀ p,H p=none->Q (.ref p) (upd H p (.dK (qd8 [] kvs)))):=by
 intro pins s σ H xs us Q I r h
 obtain ⟨a,rs,kvs,rfl,hq,hp,q⟩:=h
 obtain ⟨u,rfl,ru⟩:=r.one
 cases ru
 obtain ⟨its,rv,p,hz⟩:=I.list hq
 have ei:=qx5 rv
 subst ei
 obtain ⟨vs,kv,ln,f⟩:=qs2 I.hok hp
 have lk:kvs.length=rs.length:=hp.1.symm
 rw [List.length_map] at hz
 have hh:X.A.handled=none:=I.ok.hd hc
 refine qq9 (knd:=q40 X.prog X.w) (more:=vs) hh p.isList (λo e=>?_) (by rw [ln]; simp) (by rw [ln]; exact hz) (λi v hv=>?_) λh' tk dd kp=>?_
 ·obtain ⟨o',n,e',_,d,_⟩:=p
  rw [e'] at e
  cases e
  exact d
 ·rw [List.getElem?_toArray,List.getElem?_map] at hv
  cases z:rs[i]? with
  | none=>rw [z] at hv; cases hv
  | some r' =>
   rw [z] at hv
   cases hv
   obtain ⟨o,k,key,val,m,e1,e2,e3,e4,e5⟩:=f i r' z
   exact ⟨r',o,k,key,val,m,rfl,e1,e2,e3,e4,e5⟩
 ·have rel:KV (qd8 [] kvs) (merged [] vs):=KV.merge kv (show KV [] [] from .nil)
  have len:=qe8 kvs []
  exact ⟨.ref s.heap.objs.size,_,I.laid (a:=s.heap.objs.size) (o:=.dK (qd8 [] kvs)) (t':=tk) kp (Nat.le_refl _) (qU9 (by simp at len; omega) (beq_eq_false_iff_ne.mpr (Ne.symm (Nat.ne_of_lt I.big))) rel dd),rfl,q _ (I.hok.fresh (Nat.le_refl _))⟩
theorem qS0:MtR X "dict.update" (λx xs H Q=>∃(a b:Addr) (kvs more:List (Key×V)),x=.ref a/\xs=[.ref b]/\H a=some (.dK kvs)/\H b=some (.dK more)/\a≠b/\kvs.length + more.length<=sizeLine/\Q .non (upd H a (.dK (qd8 kvs more)))):=by
 intro pins s σ H x xs v us Q I rx rv h
 obtain ⟨a,b,kvs,more,rfl,rfl,ea,eb,nab,len,q⟩:=h
 cases rx
 obtain ⟨u,rfl,ru⟩:=rv.one
 cases ru
 obtain ⟨z,hd,vs,rel,dd⟩:=z52 I.hok ea
 obtain ⟨z2,hd2,ws,rel2,dd2⟩:=z52 I.hok eb
 refine call_meetsIn PySem.F.slot_dict_update dd.typeIs PySem.F.entry_dict_update (PySem.F.args_dict_update_2 _ _) (meets_dict_update (q40 X.prog X.w) a b nab hd2)
  ⟨vs,ws,dd,dd2,by rw [<- rel.length,<- rel2.length]; exact len,λh' dd' _ hs=>?_⟩
 have he:∃ q,h'.get? a=some q:=let ⟨q,_,_,hq,_⟩:=dd'; ⟨q,hq⟩
 exact ⟨.non,_,qD1 I (by rw [ea]; exact True.intro) hs he (qU9 (Nat.le_trans (qe8 more kvs) len) hd (rel2.merge rel) dd'),rfl,q⟩
end
end L2
namespace L2
open PySem
def iN (q:Nat):V:=.int (q:Nat)
def aV:Option Nat->V
 | some a=>s1 a
 | none=>.non
structure Buns (H0:Hp) (p:Addr) (H:Hp) (bl:List (List (Nat×Nat))):Prop where
 same:Same H0 H
 fr:H0 p=none
 at_:∃ bs:List Addr,H p=some (.lst (bs.map V.ref))/\bs.length=bl.length/\(∀ b∈bs,b≠p/\H0 b=none)/\∀(i:Nat) (b:Addr) (ks:List (Nat×Nat)),bs[i]? = some b->bl[i]? = some ks->∃ as:List Addr,H b=some (.lst (as.map V.ref))/\Tups H as (ks.map skP)
theorem Buns.mono {H0 H H1:Hp}{p:Addr}{bl:List (List (Nat×Nat))}(B:Buns H0 p H bl)(s:Same H H1):Buns H0 p H1 bl:=by
 obtain ⟨bs,e,l,f,g⟩:=B.at_
 exact ⟨B.same.trans' s,B.fr,bs,s _ _ e,l,f,λi b ks h1 h2=>let ⟨as,e1,t1⟩:=g i b ks h1 h2; ⟨as,s _ _ e1,t1.mono s⟩⟩
theorem Buns.put {H0 H H1:Hp}{p b:Addr}{bl:List (List (Nat×Nat))}{ks:List (Nat×Nat)}(B:Buns H0 p H bl)(hb:H b=none)(A:Acc H b H1 (ks.map skP)) :
  ∃ bs:List Addr,H1 p=some (.lst (bs.map V.ref))/\bs.length=bl.length/\Buns H0 p (upd H1 p (.lst (bs.map V.ref ++ [.ref b]))) (bl ++ [ks]):=by
 obtain ⟨bs,e,l,f,g⟩:=B.at_
 have e1:=A.same _ _ e
 have bp:b≠p:=λz=>by rw [z,e] at hb; cases hb
 have b0:H0 b=none:=by
  cases z:H0 b with
  | none=>rfl
  | some o=>rw [B.same _ _ z] at hb; cases hb
 refine ⟨bs,e1,l,λc o z=>?_,B.fr,bs ++ [b],by rw [q01,List.map_append]; rfl,by rw [List.length_append,List.length_append,l]; rfl,λc hc=>?_,λi c ks' h1 h2=>?_⟩
 ·rw [q07 (λw=>by rw [w,B.fr] at z; cases z)]
  exact A.same _ _ (B.same _ _ z)
 ·rcases List.mem_append.mp hc with hc | hc
  ·exact f c hc
  ·rw [List.mem_singleton.mp hc]; exact ⟨bp,b0⟩
 ·by_cases il:i < bs.length
  ·rw [List.getElem?_append_left il] at h1
   rw [List.getElem?_append_left (by omega)] at h2
   obtain ⟨as,e2,t2⟩:=g i c ks' h1 h2
   refine ⟨as,?_,(t2.mono A.same).upd e1⟩
   rw [q07 (f c (List.mem_of_getElem? h1)).1]
   exact A.same _ _ e2
  ·have ie:i=bs.length:=by
    have:=(List.getElem?_eq_some_iff.mp h1).1
    rw [List.length_append] at this
    have:[b].length=1:=rfl
    omega
   subst ie
   rw [List.getElem?_append_right (Nat.le_refl _),Nat.sub_self] at h1
   rw [l,List.getElem?_append_right (Nat.le_refl _),Nat.sub_self] at h2
   cases h1
   cases h2
   obtain ⟨as,e2,t2⟩:=A.at_
   refine ⟨as,?_,t2.upd e1⟩
   rw [q07 bp]
   exact e2
theorem Buns.offD {H0 H:Hp}{p pd:Addr}{bl:List (List (Nat×Nat))}{kvs kvs':List (Key×V)}(B:Buns H0 p H bl)(e0:H0 pd=none)(e:H pd=some (.dK kvs)):Buns H0 p (upd H pd (.dK kvs')) bl:=by
 have ne:∀{q:Addr} {o:HO},H q=some o->(∀ c,o≠.dK c)->upd H pd (.dK kvs') q=some o:=λ{q o} h n=>by
  rw [q07 (λz=>by rw [z,e] at h; cases h; exact n _ rfl)]
  exact h
 obtain ⟨bs,e1,l,f,g⟩:=B.at_
 refine ⟨λc o z=>?_,B.fr,bs,ne e1 (λ_ z=>by cases z),l,f,λi b ks h1 h2=>?_⟩
 ·rw [q07 (λw=>by rw [w,e0] at z; cases z)]
  exact B.same _ _ z
 ·obtain ⟨as,e2,t2⟩:=g i b ks h1 h2
  exact ⟨as,ne e2 (λ_ z=>by cases z),t2.1,λi r k a b=>ne (t2.2 i r k a b) (λ_ z=>by cases z)⟩
theorem z39 {κ:Type}[DecidableEq κ]{kvs:List (κ×V)}{k k':κ}{v:V}:k'∈(qj4 kvs k v).map (·.1)↔k'∈kvs.map (·.1)∨k'=k:=by
 unfold qj4
 split
 ·rename_i h
  have e:(kvs.map λkv=>if kv.1=k then (kv.1,v) else kv).map (·.1)=kvs.map (·.1):=by
   rw [List.map_map]
   refine List.map_congr_left λp _=>?_
   show (if p.1=k then (p.1,v) else p).1=p.1
   split <;> rfl
  first
   | (rw [e]
      obtain ⟨p,hp,ep⟩:=List.any_eq_true.mp h
      have ep:=of_decide_eq_true ep
      exact ⟨.inl,λw=>w.elim id λz=>by rw [z,<- ep]; exact List.mem_map.mpr ⟨p,hp,rfl⟩⟩)
 ·rw [List.map_append]
  simp
theorem qk5 {k:Key}:∀{more kvs:List (Key×V)},k∈(qd8 kvs more).map (·.1)↔k∈kvs.map (·.1)∨k∈more.map (·.1)
 | [],kvs=>by simp [qd8]
 | p :: r,kvs=>by
  show k∈(qd8 (qj4 kvs p.1 p.2) r).map (·.1)↔_
  rw [qk5,z39,List.map_cons,List.mem_cons,or_assoc]
theorem valV_some_iff {κ:Type}[DecidableEq κ]{kvs:List (κ×V)}{k:κ}:(q67 kvs k).isSome=true↔k∈kvs.map (·.1):=by
 constructor
 ·intro h
  obtain ⟨v,e⟩:=Option.isSome_iff_exists.mp h
  exact valV_in e
 ·intro h
  cases z:q67 kvs k with
  | some _=>rfl
  | none=>exact absurd h (qY1 z)
end L2
namespace K19
open PySem L2
theorem qF2 {p p':Nat×Nat}(h:skP p=skP p'):p=p':=by
 obtain ⟨q,a⟩:=p
 obtain ⟨r,b⟩:=p'
 unfold skP sk at h
 simp at h
 obtain ⟨h1,h2⟩:=h
 have h1:q=r:=by omega
 subst h1
 subst h2
 rfl
structure Tl (rs:List Str) (n:Nat) (ps:List Str) (num:Nat) (kvs:List (List Key×V)):Prop where
 own:∀ k v,q67 kvs k=some v->∃(p:Nat×Nat) (i:Nat) (x:Str),k=skP p/\v=.int i/\i < num/\ps[i]? = some x/\p.1 < n/\p.2=ch x p.1/\¬ p.2=45
 has:∀ i x q,i < num->ps[i]? = some x->q < n->¬ ch x q=45->(q67 kvs (skP (q,ch x q))).isSome=true
 two:∀ p p',(q67 kvs (skP p)).isSome=true->(q67 kvs (skP p')).isSome=true->0 < q29 rs p.1 p.2 p'.1 p'.2
 len:kvs.length<=12 * num
theorem Tl.start (rs:List Str)(n:Nat)(ps:List Str):Tl rs n ps 0 []:=⟨(λk v h=>by cases h),(λi x q h=>absurd h (Nat.not_lt_zero _)),(λp p' h=>by cases h),Nat.zero_le _⟩
noncomputable def frL (kvs:List (List Key×V))(x:Str)(n:Nat):List (Nat×Nat):=(q71 x n).filter λp=>!(q67 kvs (skP p)).isSome
theorem Tl.next {rs:List Str}{n:Nat}{ps:List Str}{num:Nat}{kvs kvs':List (List Key×V)}{x:Str}(h:Tl rs n ps num kvs)(hx:ps[num]? = some x)(sx:qb9 rs n x)(n12:n<=12)
  (ok:∀ p'∈frL kvs x n,∀ p,(q67 kvs (skP p)).isSome=true->0 < q29 rs p.1 p.2 p'.1 p'.2) (hv:∀ k,(k∈(frL kvs x n).map skP->q67 kvs' k=some (.int num))/\(k∉(frL kvs x n).map skP->q67 kvs' k=q67 kvs k)) (hl:kvs'.length<=kvs.length + (frL kvs x n).length):Tl rs n ps (num + 1) kvs':=by
 have inF:∀ p,skP p∈(frL kvs x n).map skP↔p∈frL kvs x n:=λp=>by
  rw [List.mem_map]
  exact ⟨λ⟨p',hp,e⟩=>by rw [<- qF2 e]; exact hp,λhp=>⟨p,hp,rfl⟩⟩
 have fA:∀ p∈frL kvs x n,p.1 < n/\p.2=ch x p.1/\¬ p.2=45:=λp hp=>qa9 (List.mem_filter.mp hp).1
 have some_iff:∀ p,(q67 kvs' (skP p)).isSome=true↔p∈frL kvs x n∨(q67 kvs (skP p)).isSome=true:=λp=>by
  by_cases c:p∈frL kvs x n
  ·rw [(hv _).1 ((inF p).mpr c)]
   exact ⟨λ_=>.inl c,λ_=>rfl⟩
  ·rw [(hv _).2 (λw=>c ((inF p).mp w))]
   exact ⟨.inr,λw=>w.resolve_left c⟩
 refine ⟨λk v e=>?_,λi y q hi hy hq nq=>?_,λp p' e e'=>?_,?_⟩
 ·by_cases c:k∈(frL kvs x n).map skP
  ·rw [(hv _).1 c] at e
   cases e
   obtain ⟨p,hp,rfl⟩:=List.mem_map.mp c
   obtain ⟨a,b,d⟩:=fA p hp
   exact ⟨p,num,x,rfl,rfl,Nat.lt_succ_self _,hx,a,b,d⟩
  ·rw [(hv _).2 c] at e
   obtain ⟨p,i,y,a,b,d,r⟩:=h.own k v e
   exact ⟨p,i,y,a,b,Nat.lt_succ_of_lt d,r⟩
 ·rw [some_iff]
  by_cases c:i < num
  ·exact .inr (h.has i y q c hy hq nq)
  ·have e:i=num:=by omega
   subst e
   rw [hx] at hy
   cases hy
   cases z:(q67 kvs (skP (q,ch x q))).isSome with
   | true=>exact .inr rfl
   | false=>exact .inl (List.mem_filter.mpr ⟨qf3 hq nq,by rw [z]; rfl⟩)
 ·rw [some_iff] at e e'
  rcases e with e | e <;> rcases e' with e' | e'
  ·obtain ⟨a1,a2,a3⟩:=fA p e
   obtain ⟨b1,b2,b3⟩:=fA p' e'
   rw [a2,b2]
   exact sx _ _ a1 b1 (by rw [<- a2]; exact a3) (by rw [<- b2]; exact b3)
  ·rw [qa2]
   exact ok p e p' e'
  ·exact ok p' e' p e
  ·exact h.two p p' e e'
 ·have l1:=qd7 x n
  have l2:(frL kvs x n).length<=(q71 x n).length:=List.length_filter_le _ _
  have l3:=h.len
  omega
structure Wh (rs:List Str) (n:Nat) (kvs:List (List Key×V)) (i:Nat) (W:Str):Prop where
 pat:Pat n W
 key:∀ q,q < n->ch W q=45∨(q67 kvs (skP (q,ch W q))).isSome=true
 all:∀ j p v,j < i->kvs[j]? = some (skP p,v)->ch W p.1=p.2
theorem Wh.start (rs:List Str)(n:Nat)(kvs:List (List Key×V)):Wh rs n kvs 0 (tx n λ_=>45) :=
 ⟨⟨ql4 _ _,λi hi=>by rw [qb8 hi]; exact .inr (.inr rfl)⟩,(λq hq=>by rw [qb8 hq]; exact .inl rfl),λj p v h=>absurd h (Nat.not_lt_zero _)⟩
theorem qj6 {kvs:List (List Key×V)}{j:Nat}{k:List Key}{v:V}(h:kvs[j]? = some (k,v)):(q67 kvs k).isSome=true:=valV_some_iff.mpr (List.mem_map.mpr ⟨_,List.mem_of_getElem? h,rfl⟩)
theorem Wh.next {rs:List Str}{n:Nat}{ps:List Str}{num i:Nat}{kvs:List (List Key×V)}{W:Str}{p:Nat×Nat}{v:V}(h:Wh rs n kvs i W)(T:Tl rs n ps num kvs)(hi:kvs[i]? = some (skP p,v))(hp:p.1 < n)(sp:p.2=121∨p.2=110):Wh rs n kvs (i + 1) (tx n (qu2 W p.1 p.2)):=by
 have at_:∀ q,q < n->ch (tx n (qu2 W p.1 p.2)) q=if q=p.1 then p.2 else ch W q:=λq hq=>by rw [qb8 hq]; rfl
 refine ⟨⟨ql4 _ _,λq hq=>?_⟩,λq hq=>?_,λj p' v' hj hk=>?_⟩
 ·rw [at_ q hq]
  split
  ·rcases sp with e | e
   ·exact .inl e
   ·exact .inr (.inl e)
  ·exact h.pat.sgn q hq
 ·rw [at_ q hq]
  by_cases c:q=p.1
  ·rw [if_pos c,c]
   exact .inr (qj6 hi)
  ·rw [if_neg c]
   exact h.key q hq
 ·have hp':p'.1 < n:=by
   obtain ⟨v1,e1⟩:=Option.isSome_iff_exists.mp (qj6 hk)
   obtain ⟨p2,_,_,e2,_,_,_,l,_⟩:=T.own _ _ e1
   rw [qF2 e2]; exact l
  rw [at_ _ hp']
  by_cases c:p'.1=p.1
  ·rw [if_pos c]
   obtain ⟨y,_,e1,e2⟩:=cnt_pos.mp (T.two p p' (qj6 hi) (qj6 hk))
   rw [<- e1,<- e2,c]
  ·rw [if_neg c]
   by_cases w:j < i
   ·exact h.all j p' v' w hk
   ·have e:j=i:=by omega
    subst e
    rw [hi] at hk
    have e2:=(Prod.mk.inj (Option.some.inj hk)).1
    exact absurd (show p'.1=p.1 by rw [qF2 e2]) c
theorem Wh.fin {rs:List Str}{n:Nat}{ps:List Str}{kvs:List (List Key×V)}{W:Str}(h:Wh rs n kvs kvs.length W)(T:Tl rs n ps ps.length kvs):qb9 rs n W/\∀ x∈ps,∀ i,i < n->¬ ch x i=45->ch W i=ch x i:=by
 refine ⟨λq r hq hr nq nr=>?_,λx hx i hi ni=>?_⟩
 ·exact T.two (q,ch W q) (r,ch W r) ((h.key q hq).resolve_left nq) ((h.key r hr).resolve_left nr)
 ·obtain ⟨j,hj⟩:=List.mem_iff_getElem?.mp hx
  have m:=valV_some_iff.mp (T.has j x i (List.getElem?_eq_some_iff.mp hj).1 hj hi ni)
  obtain ⟨kv,hkv,e⟩:=List.mem_map.mp m
  obtain ⟨l,hl⟩:=List.mem_iff_getElem?.mp hkv
  obtain ⟨k,v⟩:=kv
  cases (show k=skP (i,ch x i) from e)
  exact h.all l (i,ch x i) v (List.getElem?_eq_some_iff.mp hl).1 hl
end K19
namespace K19
open PySem L2
open PyProof.Rows (envOfC)
abbrev qa6:Stmt:=top 36
def Clash (rs:List Str)(n:Nat)(x y:Str):Prop:=∃ q r,q < n/\r < n/\¬ ch x q=45/\¬ ch y r=45/\q29 rs q (ch x q) r (ch y r)=0
def Meet (H:Hp)(p:Addr)(rs:List Str)(n:Nat)(ps:List Str):Prop :=
 (∃ z,H p=some (.tup [.str "row",.str z])/\Row n z/\qX5 rs n z/\∀ x∈ps,∀ i,i < n->¬ ch x i=45->ch z i=ch x i) ∨
 ∃(i j:Nat) (x y:Str),H p=some (.tup [.str "apart",.int i,.int j])/\i<=j/\ps[i]? = some x/\ps[j]? = some y/\Clash rs n x y
section
variable {P:Program}{w:World}{K:PySem.W.Frag}{mg:Str->Option Value}{base:Heap}{C fi fa ft fy fm fc:Addr}{gi ga gt gy gm gc:FuncData}{W BC BS fW fC fS:Addr}{gW gC gS:FuncData}
def qF0 (C:Addr):Sp:=λvs H Q _=>∃(t dx kp bt pl:Addr) (n m:Nat) (rs ps:List Str),vs=[.ref t,.ref pl]/\TabAt C H t dx kp bt n m rs/\H pl=some (.lst (ps.map V.str))/\(∀ x∈ps,Pat n x/\qb9 rs n x)/\ps.length<=100/\1<=n/\n<=12/\rs≠[]/\(∀ y∈rs,Row n y) /\
 ∀ p H',Same H H'->Meet H' p rs n ps->Q (.ref p) H'
abbrev N_jo:List Str:=["table", "patterns", "tellers", "number", "pattern", "fresh", "r", "b", "q", "a", "answer", "whole", "question", "sign"]
abbrev P_jo:List Str:=["table", "patterns"]
theorem sc_jo:FnScope N_jo P_jo (q02 qa6):=⟨rfl,rfl,rfl,by decide +kernel,rfl,by decide +kernel,by decide +kernel⟩
abbrev N_jo1:List Str:=["answer", "tellers"]
theorem nd_jo1:N_jo1.Nodup:=by decide +kernel
theorem qR1 {f fn fl fw:Addr}{fd gn gl gw:FuncData}(D:Df K mg "joined" qa6 P_jo f fd) (Dn:Df K mg "answers" qu3 ["pattern"] fn gn) (T:Tb K mg C fi fa ft fy fm fc gi ga gt gy gm gc) (Gc:FnOk P w K mg base (CXE P w) 3 fc gc Ptc (qa4 C)) (Dl:Df K mg "fill" qf7 Pgp fl gl) (Gl:FnOk P w K mg base (CXE P w) 5 fl gl Pgp (z71 C))
  (Dw:Df K mg "with_answer" ql5 Pwi fw gw) (B:Bt mg) (M:Gm mg):FnOk P w K mg base (CXE P w) 6 f fd P_jo (qF0 C):=by
 refine D.F.okN sc_jo (λvs H Q E h=>?_) (λcdv A outer s H vs Q E hr h=>?_)
 ·obtain ⟨t,dx,kp,bt,pl,n,m,rs,ps,rfl,_⟩:=h
  rfl
 ·obtain ⟨t,dx,kp,bt,pl,n,m,rs,ps,rfl,tab,epl,hps,l100,n1,n12,rne,hrs,k⟩:=h
  have hu:(A.deeper (envOfC "joined" (q02 qa6) s.heap.objs.size f cdv)).units + 1 < cLine:=by have:=hr.units; omega
  refine ⟨_,q04 (q18 (i:=2) sc_jo.nd rfl (Or.inr rfl) qF6)
   (q04 (q36 PassesOwn.never rfl (qf2 (by rfl) M.enum (q00 (pv 1) q03)) (q64 rfl (q17 (q09 (i:=3) sc_jo.nd rfl (Or.inl rfl)) (q17 (q09 (i:=4) sc_jo.nd rfl (Or.inl rfl)) q44)))
   (q04 (qu8 (i:=5) (N':=N_jo1) (fm:=[none,some 2]) rfl sc_jo.nd rfl rfl ⟨rfl,by decide +kernel,by decide +kernel,rfl,rfl,rfl⟩ (q27 (q23 Dn (qR4 Dn M) (hr.mono (by decide)) q19 (q00 (pv 4) q03))) (λ_ _ _ _=>(q09 (i:=0) nd_jo1 rfl (Or.inl rfl))) (λ_ _ _ _=>(q86 (qP6 (qz4 hu (pv 0) (pv 1))))) (λ_ _ _ _=>(pv 0)))
   (q04 (q36 PassesOwn.never rfl (q27 (pv 5)) (q64 rfl (q17 (q09 (i:=6) sc_jo.nd rfl (Or.inl rfl)) (q17 (q09 (i:=7) sc_jo.nd rfl (Or.inl rfl)) q44)))
   (q05 (q36 PassesOwn.never rfl (qP9 (pv 2)) (q64 rfl (q17 (q09 (i:=8) sc_jo.nd rfl (Or.inl rfl)) (q17 (q09 (i:=9) sc_jo.nd rfl (Or.inl rfl)) q44)))
   (q05 (q41 (q11 q58 (q87 (pv 0) T.cl T.mc Gc (hr.mono (by decide)) T.bc .nil q19 (q00 (pv 8) (q00 (pv 9) (q00 (pv 6) (q00 (pv 7) q03))))) q06 (q14 _)) (q05 (q13 (q54 (q00 q15 (q00 (pe_dget hu (pv 2) (q54 (q00 (pv 8) (q00 (pv 9) q03))) (λ_ _=>rfl)) (q00 (pv 3) q03)))))) q21)))))
   (q05 (ps_thaw (q36 PassesOwn.never rfl (q27 (pv 5)) (q09 (i:=10) sc_jo.nd rfl (Or.inl rfl))
   (q05 (qC0 hu (pv 2) (pv 10) (pv 3) rfl))))))))
   (q04 (q18 (i:=11) sc_jo.nd rfl (Or.inl rfl) (q24 qJ7 q15 (qb3 (pv 0) rfl)))
   (q04 (q36 PassesOwn.never rfl (qP9 (pv 2)) (q64 rfl (q17 (q09 (i:=12) sc_jo.nd rfl (Or.inl rfl)) (q17 (q09 (i:=13) sc_jo.nd rfl (Or.inl rfl)) q44)))
   (q05 (q18 (i:=11) sc_jo.nd rfl (Or.inl rfl) (q23 Dw (qQ8 Dw) (hr.mono (by decide)) q19 (q00 (pv 11) (q00 (pv 12) (q00 (pv 13) q03)))))))
   (q05 (q13 (q54 (q00 q15 (q00 (q23 Dl Gl (hr.mono (by decide)) q19 (q00 (pv 0) (q00 (pv 11) q03))) q03)))))))),?_⟩
  intro td htd
  have s0:Same H (upd H td (.dT [])):=Same.new htd
  refine ⟨_,rfl,pl,rfl,⟨_,SqL.of (s0 _ _ epl)⟩,?_⟩
  refine qq3 (K:=K) (a:=pl) (xs:=ps.map V.str) (λi σ H2=>∃(kvs:List (List Key×V)) (v3 v4 v5 v6 v7 v8 v9 v10:Option V),σ=[some (.ref t),some (.ref pl),some (.ref td),v3,v4,v5,v6,v7,v8,v9,v10,none,none,none]/\Same H H2/\H2 td=some (.dT kvs)/\Tl rs n ps i kvs) ⟨[],_,_,_,_,_,_,_,_,rfl,s0,q01,Tl.start rs n ps⟩ (λi σ H2 _ ⟨_,_,_,_,_,_,_,_,_,_,s2,_⟩=>SqL.of (s2 _ _ epl)) ?_ ?_
  ·rintro i y TT σ H2 hi hTT ⟨kvs,v3,v4,v5,v6,v7,v8,v9,v10,rfl,s2,e2,tl⟩
   rw [List.getElem?_map] at hi
   cases zi:ps[i]? with
   | none=>rw [zi] at hi; cases hi
   | some x =>
    rw [zi] at hi
    cases hi
    have il:=(List.getElem?_eq_some_iff.mp zi).1
    obtain ⟨px,sx⟩:=hps x (List.mem_of_getElem? zi)
    have sT:=Same.new (o:=.tup [.int i,.str x]) hTT
    have e2T:=sT _ _ e2
    have hTd:H2 TT=none:=hTT
    refine ⟨TT,_,rfl,SqT.of q01,rfl,_,_,rfl,_,_,rfl,rfl,?_⟩
    have s2T:=s2.trans' sT
    generalize upd H2 TT (.tup [.int i,.str x])=H3 at *
    refine ⟨_,rfl,x,n,rfl,px.len,n12,λga H4 hga acc=>?_⟩
    obtain ⟨as,ea,ta⟩:=acc.at_
    have s34:=acc.same
    have e4:=s34 _ _ e2T
    refine ⟨ga,rfl,⟨_,SqL.of ea⟩,λlb hlb=>?_⟩
    refine q57 (K:=K) (a:=ga) (xs:=as.map V.ref) (λj σ H5=>∃(v:Option V) (fs:List Addr),σ=[v,some (.ref td)]/\Same H4 H5/\H5 lb=some (.lst (fs.map V.ref))/\Tups H4 fs ((((q71 x n).take j).filter λp=>!(q67 kvs (skP p)).isSome).map skP)) ⟨none,[],rfl,Same.new hlb,q01,Tups.nil⟩ (λi σ H5 _ ⟨_,_,_,s5,_⟩=>SqL.of (s5 _ _ ea)) ?_ ?_
    ·rintro j y σ H5 hj ⟨v,fs,rfl,s5,e5,t5⟩
     obtain ⟨r1,k1,rfl,ek,er⟩:=ta.item hj
     rw [List.getElem?_map] at ek
     cases zj:(q71 x n)[j]? with
     | none=>rw [zj] at ek; cases ek
     | some pr =>
      rw [zj] at ek
      cases ek
      have sn:((q71 x n).take (j + 1)).filter (λp=>!(q67 kvs (skP p)).isSome)=((q71 x n).take j).filter (λp=>!(q67 kvs (skP p)).isSome) ++ [pr].filter (λp=>!(q67 kvs (skP p)).isSome):=by
       rw [List.take_add_one,zj,List.filter_append]
       rfl
      have fl:fs.length<=12:=by
       rw [t5.1,List.length_map]
       exact Nat.le_trans (List.length_filter_le _ _) (Nat.le_trans (List.length_take_le' _ _) (Nat.le_trans (qd7 x n) n12))
      refine ⟨_,rfl,_,rfl,td,_,rfl,DGet.t (s5 _ _ e4) (s5 _ _ er),_,rfl,?_⟩
      show if (!(q67 kvs (skP pr)).isSome)=true then _ else _
      cases zv:(q67 kvs (skP pr)).isSome with
      | false =>
       rw [if_pos (by rfl)]
       refine ⟨_,rfl,_,e5,?_,_,fs ++ [r1],rfl,Same.grow hlb s5,?_,?_⟩
       ·rw [List.length_map]
        exact Nat.lt_of_le_of_lt fl (by decide)
       ·rw [q01,List.map_append]; rfl
       ·rw [sn,show [pr].filter (λp=>!(q67 kvs (skP p)).isSome)=[pr] from List.filter_cons_of_pos (p:=λp=>!(q67 kvs (skP p)).isSome) (by rw [zv]; rfl),List.map_append]
        exact t5.snoc er
      | true =>
       rw [if_neg (by decide)]
       refine ⟨_,fs,rfl,s5,e5,?_⟩
       rw [sn,show [pr].filter (λp=>!(q67 kvs (skP p)).isSome)=[] from List.filter_cons_of_neg (p:=λp=>!(q67 kvs (skP p)).isSome) (by rw [zv]; decide),List.append_nil]
       exact t5
    rintro σ H5 ⟨v,fs,rfl,s5,e5,t5⟩
    rw [List.length_map,ta.1,List.length_map,List.take_length] at t5
    have t5:Tups H5 fs ((frL kvs x n).map skP):=t5.mono s5
    have e5d:=s5 _ _ e4
    have s25:=s2T.trans' (s34.trans' s5)
    have frm:∀ p∈frL kvs x n,p.1 < n/\(p.2=121∨p.2=110):=λp hp=>qF3 px (List.mem_filter.mp hp).1
    have ltd:lb≠td:=λw=>by rw [w,e4] at hlb; cases hlb
    refine ⟨_,rfl,lb,rfl,⟨_,SqL.of e5⟩,?_⟩
    refine q62 (K:=K) (a:=lb) (xs:=fs.map V.ref) (λj σ H6=>∃ v6 v7 v8 v9,σ=[some (.ref t),some (.ref pl),some (.ref td),some (.int i),some (.str x),some (.ref lb),v6,v7,v8,v9,v10,none,none,none]/\Same H H6/\H6 lb=some (.lst (fs.map V.ref))/\Tups H6 fs ((frL kvs x n).map skP)/\(H6 td=some (.dT kvs)∨∃ o,H6 td=some (.frz o (.dT kvs)))/\∀ j' p',j' < j->(frL kvs x n)[j']? = some p'->∀ p,(q67 kvs (skP p)).isSome=true->0 < q29 rs p.1 p.2 p'.1 p'.2) ⟨_,_,_,_,rfl,s25,e5,t5,.inl e5d,λj' p' h=>absurd h (Nat.not_lt_zero _)⟩ (λi σ H6 _ ⟨_,_,_,_,_,_,e6,_⟩=>SqL.of e6) ?_ ?_
    ·rintro j y σ H6 hj ⟨v6,v7,v8,v9,rfl,s6,e6,t6,d6,dn⟩
     obtain ⟨r1,k1,rfl,ek,er⟩:=t6.item hj
     rw [List.getElem?_map] at ek
     cases zj:(frL kvs x n)[j]? with
     | none=>rw [zj] at ek; cases ek
     | some p' =>
      rw [zj] at ek
      cases ek
      obtain ⟨f1,f2⟩:=frm p' (List.mem_of_getElem? zj)
      refine ⟨r1,_,rfl,SqT.of er,rfl,_,_,rfl,_,_,rfl,rfl,?_⟩
      refine z90 (td:=td) (kvs:=kvs) ⟨_,rfl,rfl,rfl⟩ d6 λo H7 e7 k7=>?_
      have ntd:∀ xs,H6 td≠some (.tup xs):=λxs w=>by rcases d6 with d | ⟨_,d⟩ <;> rw [d] at w <;> cases w
      have s7:=s6.but htd k7
      have t7:=t6.but ntd k7
      have l7:H7 lb=some (.lst (fs.map V.ref)):=by rw [k7 lb ltd]; exact e6
      refine qH2 (a:=td) (o:=o) (kvs:=kvs) (λi2 σ H8=>∃ v8 v9,σ=[some (.ref t),some (.ref pl),some (.ref td),some (.int i),some (.str x),some (.ref lb),some (.int p'.1),some (s1 p'.2),v8,v9,v10,none,none,none]/\Same H7 H8/\∀ j2 p v,j2 < i2->kvs[j2]? = some (skP p,v)->0 < q29 rs p.1 p.2 p'.1 p'.2) ⟨_,_,rfl,Same.refl _,λj2 p v h=>absurd h (Nat.not_lt_zero _)⟩ (λi2 σ H8 _ ⟨_,_,_,s8,_⟩=>s8 _ _ e7) ?_ ?_
      ·rintro i2 kk vv bb σ H8 hk ⟨v8,v9,rfl,s8,dn8⟩ eb
       obtain ⟨v0,hv0⟩:=Option.isSome_iff_exists.mp (qj6 hk)
       obtain ⟨p,i0,x0,rfl,rfl,i0l,hx0,p1,p2,p3⟩:=tl.own _ _ hv0
       have sp:p.2=121∨p.2=110:=by
        have:=(hps x0 (List.mem_of_getElem? hx0)).1.sgn p.1 p1
        rw [<- p2] at this
        rcases this with h | h | h
        ·exact .inl h
        ·exact .inr h
        ·exact absurd h p3
       have tab8:=tab.mono (s7.trans' s8)
       refine ⟨bb,_,rfl,SqT.of eb,rfl,_,_,rfl,_,_,rfl,rfl,?_⟩
       refine ⟨_,rfl,t,dx,_,rfl,tab8.ins,rfl,_,rfl,_,rfl,_,rfl,_,rfl,t,dx,kp,bt,n,m,rs,p.1,p.2,p'.1,p'.2,rfl,tab8,p1,f1,sp,f2,λH9 s9=>⟨rfl,_,rfl,qd4 (λc=>?_) (λc=>?_)⟩⟩
       ·have c:decide (V.int (q29 rs p.1 p.2 p'.1 p'.2:Nat)=V.int 0)=true:=c
        rw [qb0] at c
        have c0:q29 rs p.1 p.2 p'.1 p'.2=0:=by have:=beq_iff_eq.mp c; omega
        have f3:=qa9 (List.mem_filter.mp (List.mem_of_getElem? zj)).1
        refine ⟨_,rfl,_,rfl,_,rfl,q22 (show 2<=100 by decide),λT2 hT2=>?_⟩
        refine ⟨td,.int i0,rfl,.inr ⟨kvs,skP p,T2,.inr ⟨o,Same.new hT2 _ _ (s9 _ _ (s8 _ _ e7))⟩,rfl,q01,hv0.symm⟩,_,rfl,q22 (show 3<=100 by decide),λrp hrp=>?_⟩
        refine k rp _ (s7.trans' (s8.trans' (s9.trans' ((Same.new hT2).trans' (Same.new hrp))))) (.inr ⟨i0,i,x0,x,q01,by omega,hx0,zi,p.1,p'.1,p1,f1,?_,?_,?_⟩)
        ·rw [<- p2]; exact p3
        ·rw [<- f3.2.1]; exact f3.2.2
        ·rw [<- p2,<- f3.2.1]; exact c0
       ·have c:¬ decide (V.int (q29 rs p.1 p.2 p'.1 p'.2:Nat)=V.int 0)=true:=c
        refine ⟨_,_,rfl,s8.trans' s9,λj2 p'' v'' hj2 hk2=>?_⟩
        by_cases w:j2 < i2
        ·exact dn8 j2 p'' v'' w hk2
        ·have e:j2=i2:=by omega
         subst e
         rw [hk] at hk2
         rw [<- qF2 (Prod.mk.inj (Option.some.inj hk2)).1]
         refine Nat.pos_of_ne_zero λw=>c (decide_eq_true ?_)
         rw [w]; rfl
      ·rintro σ H8 ⟨v8,v9,rfl,s8,dn8⟩
       refine ⟨_,_,v8,v9,rfl,s7.trans' s8,s8 _ _ l7,t7.mono s8,.inr ⟨o,s8 _ _ e7⟩,λj' q' hj' hq' p hp=>?_⟩
       by_cases w:j' < j
       ·exact dn j' q' w hq' p hp
       ·have e:j'=j:=by omega
        subst e
        rw [zj] at hq'
        cases hq'
        obtain ⟨kv,hkv,e⟩:=List.mem_map.mp (valV_some_iff.mp hp)
        obtain ⟨l,hl⟩:=List.mem_iff_getElem?.mp hkv
        obtain ⟨k0,v0⟩:=kv
        cases (show k0=skP p from e)
        exact dn8 l p v0 (List.getElem?_eq_some_iff.mp hl).1 hl
    rintro σ H6 ⟨v6,v7,v8,v9,rfl,s6,e6,t6,d6,dn⟩
    have lfs:fs.length=(frL kvs x n).length:=by rw [t6.1,List.length_map]
    have ok:∀ p'∈frL kvs x n,∀ p,(q67 kvs (skP p)).isSome=true->0 < q29 rs p.1 p.2 p'.1 p'.2:=λp' hp'=>by
     obtain ⟨j,hj⟩:=List.mem_iff_getElem?.mp hp'
     exact dn j p' (by rw [List.length_map,lfs]; exact (List.getElem?_eq_some_iff.mp hj).1) hj
    refine qY3 (show _=none from htd) d6 λH7 e7 k7=>?_
    have ntd:∀ xs,H6 td≠some (.tup xs):=λxs w=>by rcases d6 with d | ⟨_,d⟩ <;> rw [d] at w <;> cases w
    have s7:=s6.but htd k7
    have t7:=t6.but ntd k7
    have l7:H7 lb=some (.lst (fs.map V.ref)):=by rw [k7 lb ltd]; exact e6
    refine ⟨_,rfl,lb,rfl,⟨_,SqL.of l7⟩,?_⟩
    refine q62 (K:=K) (a:=lb) (xs:=fs.map V.ref) (λj σ H8=>∃(kv:List (List Key×V)) (v10:Option V),σ=[some (.ref t),some (.ref pl),some (.ref td),some (.int i),some (.str x),some (.ref lb),v6,v7,v8,v9,v10,none,none,none]/\Same H H8/\H8 lb=some (.lst (fs.map V.ref))/\Tups H8 fs ((frL kvs x n).map skP)/\H8 td=some (.dT kv)/\(∀ k,(k∈((frL kvs x n).take j).map skP->q67 kv k=some (.int i))/\(k∉((frL kvs x n).take j).map skP->q67 kv k=q67 kvs k))/\kv.length<=kvs.length + j) ⟨kvs,_,rfl,s7,l7,t7,e7,(λk=>⟨(λh=>by cases h),λ_=>rfl⟩),Nat.le_refl _⟩ (λi σ H8 _ ⟨_,_,_,_,e8,_⟩=>SqL.of e8) ?_ ?_
    ·rintro j y σ H8 hj ⟨kv,v10,rfl,s8,l8,t8,e8,hv,hl⟩
     obtain ⟨r1,k1,rfl,ek,er⟩:=t8.item hj
     rw [List.getElem?_map] at ek
     cases zj:(frL kvs x n)[j]? with
     | none=>rw [zj] at ek; cases ek
     | some p' =>
      rw [zj] at ek
      cases ek
      have jl:=(List.getElem?_eq_some_iff.mp zj).1
      have fl:(frL kvs x n).length<=12:=Nat.le_trans (List.length_filter_le _ _) (Nat.le_trans (qd7 x n) n12)
      have tlen:=tl.len
      have nT8:∀ xs,H8 td≠some (.tup xs):=λxs w=>by rw [e8] at w; cases w
      refine ⟨_,rfl,_,rfl,_,rfl,td,_,rfl,DPut.t e8 er ?_,?_⟩
      ·exact Nat.lt_of_le_of_lt (show kv.length<=1212 by omega) (by rw [sizeLine_eq]; decide)
      have k9:∀ b,b≠td->upd H8 td (.dT (qj4 kv (skP p') (.int i))) b=H8 b:=λb nb=>q07 nb
      refine ⟨_,_,rfl,s8.but htd k9,by rw [k9 lb ltd]; exact l8,t8.but nT8 k9,q01,λk=>?_,?_⟩
      ·rw [qE1,List.take_add_one,zj,List.map_append]
       show (k∈_ ++ [skP p']->_)/\(k∉_ ++ [skP p']->_)
       by_cases w:k=skP p'
       ·rw [if_pos w]
        exact ⟨λ_=>rfl,λh=>absurd (List.mem_append_right _ (List.mem_singleton.mpr w)) h⟩
       ·rw [if_neg w]
        refine ⟨λh=>?_,λh=>(hv k).2 λh'=>h (List.mem_append_left _ h')⟩
        rcases List.mem_append.mp h with h | h
        ·exact (hv k).1 h
        ·exact absurd (List.mem_singleton.mp h) w
      ·have:=put_len kv (skP p') (.int i); omega
    ·rintro σ H8 ⟨kv,v10,rfl,s8,l8,t8,e8,hv,hl⟩
     rw [List.length_map,lfs] at hl hv
     rw [List.take_length] at hv
     exact ⟨kv,_,_,_,_,_,_,_,_,rfl,s8,e8,tl.next zi sx n12 ok hv hl⟩
  rintro σ H2 ⟨kvs,v3,v4,v5,v6,v7,v8,v9,v10,rfl,s2,e2,tl⟩
  rw [List.length_map] at tl
  have tab2:=tab.mono s2
  have e:qy0 ("-" : Str) (n:Int)=tx n (λ_=>45):=tx_rep n
  refine ⟨_,rfl,t,C,dx,_,_,rfl,tab2.ins,T.cl,T.nQ,rfl,_,_,rfl,rfl,by omega,by omega,by decide,?_⟩
  rw [e]
  change tFor (iDict (qE8 2)) _ _ _ _ _
  refine z90 (td:=td) (kvs:=kvs) ⟨_,rfl,rfl,rfl⟩ (.inl e2) λo H3 e3 k3=>?_
  have s3:=s2.but htd k3
  refine qH2 (a:=td) (o:=o) (kvs:=kvs) (λi σ H4=>∃(Wx:Str) (v12 v13:Option V),σ=[some (.ref t),some (.ref pl),some (.ref td),v3,v4,v5,v6,v7,v8,v9,v10,some (.str Wx),v12,v13]/\Same H3 H4/\Wh rs n kvs i Wx) ⟨_,_,_,rfl,Same.refl _,Wh.start rs n kvs⟩ (λi σ H4 _ ⟨_,_,_,_,s4,_⟩=>s4 _ _ e3) ?_ ?_
  ·rintro i kk vv bb σ H4 hk ⟨Wx,v12,v13,rfl,s4,wh⟩ eb
   obtain ⟨v0,hv0⟩:=Option.isSome_iff_exists.mp (qj6 hk)
   obtain ⟨p,i0,x0,rfl,rfl,i0l,hx0,p1,p2,p3⟩:=tl.own _ _ hv0
   have sp:p.2=121∨p.2=110:=by
    have:=(hps x0 (List.mem_of_getElem? hx0)).1.sgn p.1 p1
    rw [<- p2] at this
    rcases this with h | h | h
    ·exact .inl h
    ·exact .inr h
    ·exact absurd h p3
   refine ⟨bb,_,rfl,SqT.of eb,rfl,_,_,rfl,_,_,rfl,rfl,?_⟩
   exact ⟨_,rfl,_,rfl,_,rfl,Wx,n,p.1,p.2,rfl,wh.pat.len,p1,by omega,_,_,_,rfl,s4,wh.next tl hk p1 sp⟩
  ·rintro σ H4 ⟨Wx,v12,v13,rfl,s4,wh⟩
   obtain ⟨st,ag⟩:=wh.fin tl
   refine ⟨_,rfl,_,rfl,t,dx,kp,bt,n,m,rs,Wx,rfl,tab.mono (s3.trans' s4),wh.pat,n12,st,rne,hrs,λz H5 rz bz az s5=>⟨q22 (show 2<=100 by decide),λrp hrp=>?_⟩⟩
   refine k rp _ (s3.trans' (s4.trans' (s5.trans' (Same.new hrp)))) (.inl ⟨z,q01,rz,bz,λx hx i hi ni=>?_⟩)
   have a1:=ag x hx i hi ni
   rw [az i hi (by rw [a1]; exact ni),a1]
abbrev q93:Stmt:=top 35
def qy3 (C BC BS:Addr):Sp:=λvs H Q E=>∃(t dx kp bt pl:Addr) (n m:Nat) (rs ps:List Str),vs=[.ref t,.ref pl]/\TabAt C H t dx kp bt n m rs/\H pl=some (.lst (ps.map V.str))/\(∀ x∈ps,x.length<=100)/\ps.length<=100/\1<=n/\n<=12/\(∀ y∈rs,Row n y) /\
 ((∃ x∈ps,¬ Pat n x)->Ref H E BC "bad pattern")/\((∀ x∈ps,Pat n x)->rs=[]->Ref H E BS "empty")/\((∀ x∈ps,Pat n x)->rs≠[]->∀ p H',Same H H'->Meet H' p rs n ps->Q (.ref p) H')
abbrev N_mt:List Str:=["table", "patterns", "pattern", "k"]
abbrev P_mt:List Str:=["table", "patterns"]
theorem sc_mt:FnScope N_mt P_mt (q02 q93):=⟨rfl,rfl,rfl,by decide +kernel,rfl,by decide +kernel,by decide +kernel⟩
theorem qK0 {f fp fc' fg fj:Addr}{fd gp gc' gg gj:FuncData}(D:Df K mg "meeting" q93 P_mt f fd) (Dp:Df K mg "check_pattern" qo7 Pip fp gp) (Gp:FnOk P w K mg base (CXE P w) 4 fp gp Pip (z73 BC)) (Dc:Df K mg "check_filled" q97 ["table"] fc' gc') (Dg:Df K mg "gaps" qo5 Pgp fg gg) (Gg:FnOk P w K mg base (CXE P w) 5 fg gg Pgp (z70 C))
  (Dj:Df K mg "joined" qa6 P_jo fj gj) (Gj:FnOk P w K mg base (CXE P w) 6 fj gj P_jo (qF0 C)) (T:Tb K mg C fi fa ft fy fm fc gi ga gt gy gm gc) (X:Xs K mg W BC BS fW fC fS gW gC gS) (M:Gm mg):FnOk P w K mg base (CXE P w) 7 f fd P_mt (qy3 C BC BS):=by
 refine D.F.okE sc_mt (λvs H Q E h=>?_) (λcdv A outer s H vs Q E hr h=>?_)
 ·obtain ⟨t,dx,kp,bt,pl,n,m,rs,ps,rfl,_⟩:=h
  rfl
 ·obtain ⟨t,dx,kp,bt,pl,n,m,rs,ps,rfl,tab,epl,hps,l100,n1,n12,hrs,k1,k2,k3⟩:=h
  refine ⟨_,q04 (q36 PassesOwn.leaving rfl (q27 (pv 1)) (q09 (i:=2) sc_mt.nd rfl (Or.inl rfl))
   (q05 (q26 (q23 Dp Gp (hr.mono (by decide)) qk3 (q00 (pv 2) (q00 (qb3 (pv 0) rfl) q03))))))
   (q04 (q26 (q23 Dc (ok_cfil Dc T X M) (hr.mono (by decide)) qk3 (q00 (pv 0) q03)))
   (PSs.nox (q04 (q36 PassesOwn.never rfl (qf2 (by rfl) M.enum (q00 (pv 1) q03)) (q64 rfl (q17 (q09 (i:=3) sc_mt.nd rfl (Or.inl rfl)) (q17 (q09 (i:=2) sc_mt.nd rfl (Or.inl rfl)) q44)))
   (q05 (q41 (z03 (q23 Dg Gg (hr.mono (by decide)) q19 (q00 (pv 0) (q00 (pv 2) q03))) (λ_=>rfl)) (q05 (q13 (q54 (q00 q15 (q00 (pv 3) (q00 (pv 3) q03)))))) q21)))
   (q05 (q13 (q23 Dj Gj (hr.mono (by decide)) q19 (q00 (pv 0) (q00 (pv 1) q03)))))))),?_⟩
  refine ⟨_,rfl,pl,rfl,⟨_,SqL.of epl⟩,?_⟩
  refine q62 (K:=K) (a:=pl) (xs:=ps.map V.str) (λi σ H2=>∃ v2,σ=[some (.ref t),some (.ref pl),v2,none]/\Same H H2/\∀ x∈ps.take i,Pat n x) ⟨_,rfl,Same.refl _,(λx hx=>by cases hx)⟩ (λi σ H2 _ ⟨_,_,s2,_⟩=>SqL.of (s2 _ _ epl)) ?_ ?_
  ·rintro i y σ H2 hi ⟨v2,rfl,s2,pa⟩
   rw [List.getElem?_map] at hi
   cases zi:ps[i]? with
   | none=>rw [zi] at hi; cases hi
   | some x =>
    rw [zi] at hi
    cases hi
    have mx:=List.mem_of_getElem? zi
    refine ⟨_,rfl,_,rfl,t,C,dx,_,_,rfl,(tab.mono s2).ins,T.cl,T.nQ,rfl,x,n,rfl,hps x mx,n1,n12,?_⟩
    by_cases hp:Pat n x
    case neg=>exact .inr ⟨hp,(k1 ⟨x,mx,hp⟩).same s2⟩
    refine .inl ⟨hp,λH3 s3=>⟨_,rfl,s2.trans' s3,λy hy=>?_⟩⟩
    rw [List.take_add_one,zi] at hy
    rcases List.mem_append.mp hy with hy | hy
    ·exact pa y hy
    ·rw [List.mem_singleton.mp hy]; exact hp
  rintro σ H2 ⟨v2,rfl,s2,pa⟩
  rw [List.length_map,List.take_length] at pa
  refine ⟨_,rfl,t,dx,kp,bt,n,m,rs,rfl,tab.mono s2,?_⟩
  by_cases h0:rs=[]
  case pos=>exact .inr ⟨h0,(k2 pa h0).same s2⟩
  refine .inl ⟨h0,?_⟩
  refine ⟨_,rfl,pl,rfl,⟨_,SqL.of (s2 _ _ epl)⟩,?_⟩
  refine qq3 (K:=K) (a:=pl) (xs:=ps.map V.str) (λi σ H3=>∃ v2 v3,σ=[some (.ref t),some (.ref pl),v2,v3]/\Same H H3/\∀ x∈ps.take i,qb9 rs n x) ⟨_,_,rfl,s2,(λx hx=>by cases hx)⟩ (λi σ H2 _ ⟨_,_,_,s2,_⟩=>SqL.of (s2 _ _ epl)) ?_ ?_
  ·rintro i y TT σ H3 hi hTT ⟨v2,v3,rfl,s3,st⟩
   rw [List.getElem?_map] at hi
   cases zi:ps[i]? with
   | none=>rw [zi] at hi; cases hi
   | some x =>
    rw [zi] at hi
    cases hi
    have mx:=List.mem_of_getElem? zi
    have sT:=s3.trans' (Same.new (o:=.tup [.int i,.str x]) hTT)
    refine ⟨TT,_,rfl,SqT.of q01,rfl,_,_,rfl,_,_,rfl,rfl,?_⟩
    refine ⟨_,rfl,_,rfl,t,dx,kp,bt,n,m,rs,x,rfl,tab.mono sT,pa x mx,n12,λgp' H4 hgp acc=>?_⟩
    obtain ⟨s4,as,ea,ta⟩:=acc
    have s04:=sT.trans' s4
    cases z:pgM rs 0 (q71 x n) with
    | nil =>
     rw [z] at ta
     have:as=[]:=List.length_eq_zero_iff.mp ta.1
     subst this
     refine ⟨false,.inl ⟨_,SqL.of ea,rfl⟩,q30 ⟨_,_,rfl,s04,λy hy=>?_⟩⟩
     rw [List.take_add_one,zi] at hy
     rcases List.mem_append.mp hy with hy | hy
     ·exact st y hy
     ·rw [List.mem_singleton.mp hy]; exact qy1 z
    | cons k0 kt =>
     rw [z] at ta
     obtain ⟨q,r,rfl,nb⟩:=gap_mem (x:=x) (n:=n) (rs:=rs) (k:=k0) (by rw [z]; exact List.mem_cons_self)
     cases as with
     | nil=>exact absurd ta.1 (by simp)
     | cons a0 at' =>
      refine ⟨true,.inl ⟨_,SqL.of ea,rfl⟩,q48 ?_⟩
      refine ⟨_,rfl,_,rfl,q22 (show 3<=100 by decide),λrp hrp=>?_⟩
      exact k3 pa h0 rp _ (s04.trans' (Same.new hrp)) (.inr ⟨i,i,x,x,q01,Nat.le_refl _,zi,zi,q,r,nb.2.1,nb.2.2.1,nb.2.2.2.1,nb.2.2.2.2.1,nb.2.2.2.2.2⟩)
  ·rintro σ H3 ⟨v2,v3,rfl,s3,st⟩
   rw [List.length_map,List.take_length] at st
   exact ⟨_,rfl,_,rfl,t,dx,kp,bt,pl,n,m,rs,ps,rfl,tab.mono s3,s3 _ _ epl,(λx hx=>⟨pa x hx,st x hx⟩),l100,n1,n12,h0,hrs,λp H' s' mt=>k3 pa h0 p H' (s3.trans' s') mt⟩
end
abbrev qc6:Stmt:=top 29
abbrev qh1:Stmt:=top 31
abbrev qh0:Stmt:=top 30
abbrev q80:Stmt:=top 26
abbrev qa5:Stmt:=top 28
def opL (rs:List Str)(q:Nat):Nat->List Bool
 | 0=>[]
 | 1=>[decide (0 < q29 rs q 110 q 110)]
 | _=>[decide (0 < q29 rs q 110 q 110),decide (0 < q29 rs q 121 q 121)]
theorem qQ6 (rs:List Str)(q c:Nat):(opL rs q c).length<=2:=by
 match c with
 | 0=>exact Nat.zero_le _
 | 1=>exact (by decide:1<=2)
 | c + 2=>exact Nat.le_refl _
section
variable {P:Program}{w:World}{K:PySem.W.Frag}{mg:Str->Option Value}{base:Heap}{C fi fa ft fy fm fc:Addr}{gi ga gt gy gm gc:FuncData}
def qF1 (C:Addr):Sp:=λvs H Q _=>∃(t dx kp bt:Addr) (n m:Nat) (rs:List Str) (q:Nat),vs=[.ref t,.int q]/\TabAt C H t dx kp bt n m rs/\q < n/\∀ H',Same H H'->Q (.bl (opB rs q)) H'
abbrev Pio:List Str:=["table", "question"]
theorem qP1:FnScope Pio Pio (q02 qc6):=⟨rfl,rfl,rfl,by decide +kernel,rfl,by decide +kernel,by decide +kernel⟩
abbrev Nio:List Str:=["sign", "table", "question"]
theorem nd_io:Nio.Nodup:=by decide +kernel
theorem qz9 {f:Addr}{fd:FuncData}(D:Df K mg "is_open" qc6 Pio f fd) (T:Tb K mg C fi fa ft fy fm fc gi ga gt gy gm gc) (Gc:FnOk P w K mg base (CXE P w) 3 fc gc Ptc (qa4 C)) (B:Bt mg) (M:Gm mg):FnOk P w K mg base (CXE P w) 4 f fd Pio (qF1 C):=by
 refine D.F.okN qP1 (λvs H Q E h=>?_) (λcdv A outer s H vs Q E hr h=>?_)
 ·obtain ⟨t,dx,kp,bt,n,m,rs,q,rfl,_⟩:=h
  rfl
 ·obtain ⟨t,dx,kp,bt,n,m,rs,q,rfl,tab,hq,k⟩:=h
  obtain ⟨tk,mS⟩:=M.signs
  refine ⟨_,q05 (q13 (q12 (q90 rfl) (by rfl) B.all (by rfl) (q00 (q38 (N':=Nio) (fm:=[none,some 0,some 1]) rfl ⟨rfl,by decide +kernel,by decide +kernel,rfl,rfl,rfl⟩
    (qm2 (qe5 (v:=.str "ny") (by rfl) mS ⟨tk,rfl⟩)) (λ_ _ _ _=>q09 (i:=0) nd_io rfl (Or.inl rfl)) (λ_ _ _ _=>q35)
    (λ_ _ _ _=>q50 qJ8 (q87 (pv 1) T.cl T.mc Gc hr T.bc .nil q19 (q00 (pv 2) (q00 (pv 0) (q00 (pv 2) (q00 (pv 0) q03))))) q06 (q14 _))) q03))),?_⟩
  refine ⟨_,rfl,λp hp=>?_⟩
  have pos:∀ a:Nat,decide ((0:Int) < (q29 rs q a q a:Nat))=decide (0 < q29 rs q a q a):=λa=>decide_eq_decide.mpr ⟨λh=>by omega,λh=>by omega⟩
  refine ql1 (x := "ny") (λc σ H2=>∃ v,σ=[v,some (.ref t),some (.int q)]/\Same H H2/\H2 p=some (.lst ((opL rs q c).map V.bl))) ⟨none,rfl,Same.new hp,q01⟩ ?_ ?_
  ·rintro c σ H2 hc ⟨v,rfl,s2,e2⟩
   have hc:c < 2:=by rw [show ("ny" : Str).length=2 by decide +kernel] at hc; exact hc
   have hc':c=0∨c=1:=by omega
   have tab2:=tab.mono s2
   rcases hc' with rfl | rfl
   ·refine q34 ⟨_,rfl,t,dx,_,rfl,tab2.ins,rfl,_,rfl,_,rfl,_,rfl,_,rfl,t,dx,kp,bt,n,m,rs,q,110,q,110,rfl,tab2,hq,hq,.inr rfl,.inr rfl,λH6 s6=>?_⟩
    refine ⟨_,_,rfl,rfl,_,s6 _ _ e2,(by rw [List.length_map]; exact Nat.lt_of_le_of_lt (qQ6 rs q _) (by decide)),_,rfl,Same.grow hp (s2.trans' s6),?_⟩
    rw [q01]
    show some (HO.lst ([] ++ [V.bl (decide ((0:Int) < (q29 rs q 110 q 110:Nat)))]))=_
    rw [pos]
    rfl
   ·refine q34 ⟨_,rfl,t,dx,_,rfl,tab2.ins,rfl,_,rfl,_,rfl,_,rfl,_,rfl,t,dx,kp,bt,n,m,rs,q,121,q,121,rfl,tab2,hq,hq,.inl rfl,.inl rfl,λH6 s6=>?_⟩
    refine ⟨_,_,rfl,rfl,_,s6 _ _ e2,(by rw [List.length_map]; exact Nat.lt_of_le_of_lt (qQ6 rs q _) (by decide)),_,rfl,Same.grow hp (s2.trans' s6),?_⟩
    rw [q01]
    show some (HO.lst (_ ++ [V.bl (decide ((0:Int) < (q29 rs q 121 q 121:Nat)))]))=_
    rw [pos]
    rfl
  ·rintro σ H2 ⟨v,rfl,s2,e2⟩
   have e:opL rs q ("ny" : Str).length=opL rs q 2:=by rw [show ("ny" : Str).length=2 by decide +kernel]
   rw [e] at e2
   refine ⟨p,_,rfl,SqL.of e2,?_⟩
   have e3:(opL rs q 2).all id=opB rs q:=by
    show (decide (0 < q29 rs q 110 q 110) && (decide (0 < q29 rs q 121 q 121) && true))=_
    rw [Bool.and_true]
    rfl
   rw [e3]
   exact k H2 s2
def qO5 (C:Addr):Sp:=λvs H Q _=>∃(t dx kp bt:Addr) (n m:Nat) (rs:List Str) (q r:Nat),vs=[.ref t,.int q,.int r]/\TabAt C H t dx kp bt n m rs/\q < n/\r < n/\∀ H',Same H H'->Q (aV (alO rs q r)) H'
abbrev Pag:List Str:=["table", "q", "r"]
theorem qZ9:FnScope Pag Pag (q02 qh1):=⟨rfl,rfl,rfl,by decide +kernel,rfl,by decide +kernel,by decide +kernel⟩
theorem qG0 {f:Addr}{fd:FuncData}(D:Df K mg "answer_along" qh1 Pag f fd) (T:Tb K mg C fi fa ft fy fm fc gi ga gt gy gm gc) (Gc:FnOk P w K mg base (CXE P w) 3 fc gc Ptc (qa4 C)):FnOk P w K mg base (CXE P w) 4 f fd Pag (qO5 C):=by
 refine D.F.okN qZ9 (λvs H Q E h=>?_) (λcdv A outer s H vs Q E hr h=>?_)
 ·obtain ⟨t,dx,kp,bt,n,m,rs,q,r,rfl,_⟩:=h
  rfl
 ·obtain ⟨t,dx,kp,bt,n,m,rs,q,r,rfl,tab,hq,hr',k⟩:=h
  refine ⟨_,q04 (qr9 (λσ H1=>σ=[some (.ref t),some (.int q),some (.int r)]/\Same H H1/\akB rs q r=false) (q41 (PW.pt (q72 (q11 q58 (q87 (pv 0) T.cl T.mc Gc hr T.bc .nil q19 (q00 (pv 1) (q00 q15 (q00 (pv 2) (q00 q15 q03))))) q06 (q14 _)) (q53 (q11 q58 (q87 (pv 0) T.cl T.mc Gc hr T.bc .nil q19 (q00 (pv 1) (q00 q15 (q00 (pv 2) (q00 q15 q03))))) q06 (q14 _))))) (q05 (q13 q15)) q21))
   (q04 (q41 (PW.pt (q72 (q11 q58 (q87 (pv 0) T.cl T.mc Gc hr T.bc .nil q19 (q00 (pv 1) (q00 q15 (q00 (pv 2) (q00 q15 q03))))) q06 (q14 _)) (q53 (q11 q58 (q87 (pv 0) T.cl T.mc Gc hr T.bc .nil q19 (q00 (pv 1) (q00 q15 (q00 (pv 2) (q00 q15 q03))))) q06 (q14 _))))) (q05 (q13 q15)) q21)
   (q05 (q13 qQ1))),?_⟩
  have dz:∀ c:Nat,decide (V.int (c:Nat)=V.int 0)=decide (c=0):=λc=>by
   refine decide_eq_decide.mpr ⟨λh=>?_,λh=>by rw [h]; rfl⟩
   injection h with h
   omega
  refine ⟨?_,?_⟩
  ·refine ⟨_,rfl,t,dx,_,rfl,tab.ins,rfl,_,rfl,_,rfl,t,dx,kp,bt,n,m,rs,q,110,r,121,rfl,tab,hq,hr',.inr rfl,.inl rfl,λH1 s1'=>⟨rfl,_,rfl,?_⟩⟩
   rw [dz]
   cases c1:decide (q29 rs q 110 r 121=0) with
   | false=>exact q30 (q30 ⟨rfl,s1',by unfold akB; rw [c1,Bool.false_and]⟩)
   | true =>
    have tab1:=tab.mono s1'
    refine q48 ⟨_,rfl,t,dx,_,rfl,tab1.ins,rfl,_,rfl,_,rfl,t,dx,kp,bt,n,m,rs,q,121,r,110,rfl,tab1,hq,hr',.inl rfl,.inr rfl,λH2 s2=>⟨rfl,_,rfl,?_⟩⟩
    rw [dz]
    cases c2:decide (q29 rs q 121 r 110=0) with
    | false=>exact q30 ⟨rfl,s1'.trans' s2,by unfold akB; rw [c1,c2]; rfl⟩
    | true =>
     have e:alO rs q r=some 121:=by unfold alO akB; rw [c1,c2]; rfl
     rw [e] at k
     exact q48 (k H2 (s1'.trans' s2))
  ·rintro σ H1 ⟨rfl,s1',nk⟩
   have tab1:=tab.mono s1'
   refine ⟨_,rfl,t,dx,_,rfl,tab1.ins,rfl,_,rfl,_,rfl,t,dx,kp,bt,n,m,rs,q,110,r,110,rfl,tab1,hq,hr',.inr rfl,.inr rfl,λH2 s2=>⟨rfl,_,rfl,?_⟩⟩
   have s12:=s1'.trans' s2
   have none_:apB rs q r=false->alO rs q r=none:=λh=>by unfold alO; rw [nk,h]; rfl
   rw [dz]
   cases c1:decide (q29 rs q 110 r 110=0) with
   | false =>
    rw [none_ (by unfold apB; rw [c1,Bool.false_and])] at k
    exact q30 (q30 (k H2 s12))
   | true =>
    have tab2:=tab.mono s12
    refine q48 ⟨_,rfl,t,dx,_,rfl,tab2.ins,rfl,_,rfl,_,rfl,t,dx,kp,bt,n,m,rs,q,121,r,121,rfl,tab2,hq,hr',.inl rfl,.inl rfl,λH3 s3=>⟨rfl,_,rfl,?_⟩⟩
    rw [dz]
    cases c2:decide (q29 rs q 121 r 121=0) with
    | false =>
     rw [none_ (by unfold apB; rw [c1,c2]; rfl)] at k
     exact q30 (k H3 (s12.trans' s3))
    | true =>
     have e:alO rs q r=some 110:=by unfold alO apB; rw [nk,c1,c2]; rfl
     rw [e] at k
     exact q48 (k H3 (s12.trans' s3))
def qO4 (C:Addr):Sp:=λvs H Q _=>∃(t dx kp bt:Addr) (n m:Nat) (rs:List Str) (l:Nat),vs=[.ref t,.int l]/\TabAt C H t dx kp bt n m rs/\(∀ x∈rs,Row n x)/\l < n/\n<=12/\qr3 rs l=true/\∀ p H',H p=none->Acc H p H' ((bun rs n l).map skP)->Q (.ref p) H'
abbrev Nbf:List Str:=["table", "lowest", "told", "question", "answer"]
abbrev Pbf:List Str:=["table", "lowest"]
theorem sc_bfrom:FnScope Nbf Pbf (q02 qh0):=⟨rfl,rfl,rfl,by decide +kernel,rfl,by decide +kernel,by decide +kernel⟩
def bfP (rs:List Str)(l j:Nat):List (Nat×Nat):=(List.range j).filterMap λd=>qg0 rs l (l + d)
theorem bfP_len (rs:List Str)(l j:Nat):(bfP rs l j).length<=j:=by
 have:=List.length_filterMap_le (λd=>qg0 rs l (l + d)) (List.range j)
 rw [List.length_range] at this
 exact this
theorem qI5 (rs:List Str)(l j:Nat):bfP rs l (j + 1)=bfP rs l j ++ (qg0 rs l (l + j)).toList:=by
 unfold bfP
 rw [List.range_succ,List.filterMap_append]
 congr 1
theorem qF9 {f fg:Addr}{fd gg:FuncData}(D:Df K mg "bundle_from" qh0 Pbf f fd) (Dg:Df K mg "answer_along" qh1 Pag fg gg) (Gg:FnOk P w K mg base (CXE P w) 4 fg gg Pag (qO5 C)) (T:Tb K mg C fi fa ft fy fm fc gi ga gt gy gm gc) (B:Bt mg):FnOk P w K mg base (CXE P w) 5 f fd Pbf (qO4 C):=by
 refine D.F.okN sc_bfrom (λvs H Q E h=>?_) (λcdv A outer s H vs Q E hr h=>?_)
 ·obtain ⟨t,dx,kp,bt,n,m,rs,l,rfl,_⟩:=h
  rfl
 ·obtain ⟨t,dx,kp,bt,n,m,rs,l,rfl,tab,hrs,hl,n12,ll,k⟩:=h
  refine ⟨_,q04 (q18 (i:=2) sc_bfrom.nd rfl (Or.inl rfl) (q42 q03))
   (q04 (q36 PassesOwn.never rfl (qp2 (by rfl) B.range (q00 (pv 1) (q00 (qb3 (pv 0) rfl) q03))) (q09 (i:=3) sc_bfrom.nd rfl (Or.inl rfl))
    (q04 (q18 (i:=4) sc_bfrom.nd rfl (Or.inl rfl) (q23 Dg Gg hr q19 (q00 (pv 0) (q00 (pv 1) (q00 (pv 3) q03)))))
    (q05 (q41 (qP6 (pc_notN (pv 4))) (q05 (q26 (qk1 PySem.F.plainAttrs_list PySem.F.slot_list_append PySem.F.type_list_append q45 (pv 2) (q00 (q54 (q00 (pv 3) (q00 (pv 4) q03))) q03)))) q21))))
   (q05 (q13 (pv 2)))),?_⟩
  refine ⟨Nat.zero_le _,λp hp=>?_⟩
  have tab0:=tab.mono (Same.new (o:=.lst []) hp)
  refine ⟨_,rfl,_,rfl,t,C,dx,_,_,rfl,tab0.ins,T.cl,T.nQ,rfl,_,_,rfl,⟨by omega,by omega,by omega,by omega⟩,?_⟩
  have en:(((n:Nat):Int) - (l:Int)).toNat=n - l:=by omega
  rw [en]
  refine q49 (λj σ H2=>∃ v3 v4,σ=[some (.ref t),some (.int l),some (.ref p),v3,v4]/\Acc H p H2 ((bfP rs l j).map skP)) ⟨none,none,rfl,Same.new hp,[],q01,.nil⟩ ?_ ?_
  ·rintro j σ H2 hj ⟨v3,v4,rfl,a2⟩
   have ej:(l:Int) + (j:Int)=((l + j:Nat):Int):=by omega
   rw [ej]
   refine ⟨_,rfl,_,rfl,_,rfl,t,dx,kp,bt,n,m,rs,l,l + j,rfl,tab.mono a2.same,hl,by omega,λH3 s3=>?_⟩
   have a3:=a2.mono s3
   cases z:alO rs l (l + j) with
   | none =>
    have e:qg0 rs l (l + j)=none:=by unfold qg0; rw [z]; rfl
    refine ⟨_,rfl,_,rfl,q30 ⟨_,_,rfl,?_⟩⟩
    rw [qI5,e]
    simpa using a3
   | some a =>
    have e:qg0 rs l (l + j)=some (l + j,a):=by unfold qg0; rw [z]; rfl
    obtain ⟨rs',e3,t3⟩:=a3.at_
    refine ⟨_,rfl,_,rfl,q48 ⟨_,rfl,.inl ⟨rfl,_,SqL.of e3⟩,_,rfl,_,rfl,q22 (show 2<=100 by decide),λT' hT=>?_⟩⟩
    obtain ⟨ys,ey,yl,a4⟩:=a3.put (k:=skP (l + j,a)) hp (Same.refl _) hT
    refine ⟨p,_,_,rfl,rfl,ey,?_,_,_,rfl,?_⟩
    ·rw [yl,List.length_map]
     have:=bfP_len rs l j
     exact Nat.lt_of_le_of_lt (show _<=12 by omega) (by decide)
    ·rw [qI5,e,List.map_append]
     exact a4
  ·rintro σ H2 ⟨v3,v4,rfl,a2⟩
   refine ⟨_,rfl,k p H2 hp ?_⟩
   rw [qI3 hrs hl ll]
   exact a2
def qy6 (C:Addr):Sp:=λvs H Q _=>∃(t dx kp bt:Addr) (n m:Nat) (rs:List Str),vs=[.ref t]/\TabAt C H t dx kp bt n m rs/\(∀ x∈rs,Row n x)/\1<=n/\n<=12/\∀ p H',Buns H p H' (bnl rs n)->Q (.ref p) H'
abbrev Nbu:List Str:=["table", "told", "placed", "question", "bundle"]
theorem sc_bundles:FnScope Nbu ["table"] (q02 q80):=⟨rfl,rfl,rfl,by decide +kernel,rfl,by decide +kernel,by decide +kernel⟩
def qz5 (p:Nat×Nat):Key×V:=(.inl (p.1:Int),s1 p.2)
theorem qJ2 {H:Hp}{as:List Addr}{ks:List (Nat×Nat)}(t:Tups H as (ks.map skP)):qE0 H as (ks.map qz5):=by
 refine ⟨by rw [List.length_map,t.1,List.length_map],λi r p h1 h2=>?_⟩
 rw [List.getElem?_map] at h2
 cases z:ks[i]? with
 | none=>rw [z] at h2; cases h2
 | some q =>
  rw [z] at h2
  cases h2
  exact t.2 i r (skP q) h1 (by rw [List.getElem?_map,z]; rfl)
theorem z44 {r:Nat}{rs:List Str}{n l:Nat}:((.inl (r:Int)):Key)∈(((bun rs n l).map qz5).map (·.1))↔r < n/\tgB rs l r=true:=by
 constructor
 ·intro h
  rw [List.map_map] at h
  obtain ⟨p,hp,e⟩:=List.mem_map.mp h
  have e:(p.1:Int)=(r:Int):=by
   have e:(Sum.inl (p.1:Int):Key)=.inl (r:Int):=e
   injection e
  have e:p.1=r:=by omega
  obtain ⟨a,b⟩:=qD8 (r:=p.1) (a:=p.2) hp
  rw [e] at a b
  refine ⟨a,?_⟩
  cases z:tgB rs l r with
  | true=>rfl
  | false=>rw [alO_none.mpr z] at b; cases b
 ·rintro ⟨a,b⟩
  cases z:alO rs l r with
  | none=>rw [alO_none.mp z] at b; cases b
  | some c =>
   rw [List.map_map]
   exact List.mem_map.mpr ⟨(r,c),qS2 a z,rfl⟩
theorem qs3 {f fo fg:Addr}{fd go gg:FuncData}(D:Df K mg "bundles" q80 ["table"] f fd) (Do:Df K mg "is_open" qc6 Pio fo go) (Go:FnOk P w K mg base (CXE P w) 4 fo go Pio (qF1 C)) (Dg:Df K mg "bundle_from" qh0 Pbf fg gg) (Gg:FnOk P w K mg base (CXE P w) 5 fg gg Pbf (qO4 C)) (T:Tb K mg C fi fa ft fy fm fc gi ga gt gy gm gc) (B:Bt mg) (M:Gm mg):FnOk P w K mg base (CXE P w) 6 f fd ["table"] (qy6 C):=by
 refine D.F.okN sc_bundles (λvs H Q E h=>?_) (λcdv A outer s H vs Q E hr h=>?_)
 ·obtain ⟨t,dx,kp,bt,n,m,rs,rfl,_⟩:=h
  rfl
 ·obtain ⟨t,dx,kp,bt,n,m,rs,rfl,tab,hrs,n1,n12,k⟩:=h
  have hu:(A.deeper (envOfC "bundles" (q02 q80) s.heap.objs.size f cdv)).units + 1 < cLine:=by have:=hr.units; omega
  refine ⟨_,q04 (q18 (i:=1) sc_bundles.nd rfl (Or.inl rfl) (q42 q03))
   (q04 (q18 (i:=2) sc_bundles.nd rfl (Or.inl rfl) qF7)
   (q04 (q36 PassesOwn.never rfl (q31 (by rfl) B.range (q00 (qb3 (pv 0) rfl) q03)) (q09 (i:=3) sc_bundles.nd rfl (Or.inl rfl))
    (q05 (q41 (PW.pt (q72 (qP6 (qz4 hu (pv 3) (pv 2))) (q53 (q52 (q23 Do Go (hr.mono (by decide)) q19 (q00 (pv 0) (q00 (pv 3) q03)))))))
     (q04 (q18 (i:=4) sc_bundles.nd rfl (Or.inl rfl) (q23 Dg Gg hr q19 (q00 (pv 0) (q00 (pv 3) q03))))
     (q04 (q26 (qk1 PySem.F.plainAttrs_list PySem.F.slot_list_append PySem.F.type_list_append q45 (pv 1) (q00 (pv 4) q03)))
     (q05 (q26 (qk1 PySem.F.plainAttrs_dict PySem.F.slot_dict_update PySem.F.type_dict_update qS0 (pv 2) (q00 (qb4 (qL8 rfl) (by rfl) M.dict (by rfl) (q00 (pv 4) q03)) q03)))))) q21)))
   (q05 (q13 (pv 1))))),?_⟩
  refine ⟨Nat.zero_le _,λp hp=>λpd hpd=>?_⟩
  have s1':=Same.new (o:=.lst []) hp
  have s2:=Same.new (o:=.dK []) hpd
  have tab0:=tab.mono (s1'.trans' s2)
  refine ⟨_,rfl,t,C,dx,_,_,rfl,tab0.ins,T.cl,T.nQ,rfl,_,rfl,by omega,by omega,?_⟩
  have en:((n:Nat):Int).toNat=n:=by omega
  rw [en]
  refine q49 (λi σ H2=>∃ v3 v4 kvs,σ=[some (.ref t),some (.ref p),some (.ref pd),v3,v4]/\Buns H p H2 ((q32 rs i).map (bun rs n))/\H2 pd=some (.dK kvs)/\kvs.length<=12 * i/\∀ r,r < n->(((.inl (r:Int)):Key)∈kvs.map (·.1)↔∃ l,l < i/\qr3 rs l=true/\tgB rs l r=true))
   ⟨none,none,[],rfl,⟨s1'.trans' s2,hp,[],s2 _ _ q01,rfl,(λ_ h=>by cases h),λ_ _ _ h=>by cases h⟩,q01,Nat.zero_le _,λr _=>⟨λh=>(by cases h),λ⟨l,h,_⟩=>by omega⟩⟩ ?_ ?_
  ·rintro i σ H2 hi ⟨v3,v4,kvs,rfl,b2,e2,l2,pl⟩
   rw [Int.zero_add]
   have pd0:H pd=none:=q39 hpd
   have stay:∀{H3:Hp} {v4:Option V},Same H2 H3->qr3 rs i=false->∃ v3 v4' kvs,[some (V.ref t),some (V.ref p),some (V.ref pd),some (V.int i),v4]=[some (.ref t),some (.ref p),some (.ref pd),v3,v4']/\Buns H p H3 ((q32 rs (i + 1)).map (bun rs n))/\H3 pd=some (.dK kvs)/\kvs.length<=12 * (i + 1)/\∀ r,r < n->(((.inl (r:Int)):Key)∈kvs.map (·.1)↔∃ l,l < i + 1/\qr3 rs l=true/\tgB rs l r=true):=by
    intro H3 v4 s3 nl
    refine ⟨_,_,kvs,rfl,?_,s3 _ _ e2,by omega,λr hr=>?_⟩
    ·rw [qi4,nl]
     simpa using b2.mono s3
    ·rw [pl r hr]
     constructor
     ·rintro ⟨l,a,b⟩
      exact ⟨l,by omega,b⟩
     ·rintro ⟨l,a,b,c⟩
      refine ⟨l,Nat.lt_of_le_of_ne (by omega) (λe=>?_),b,c⟩
      rw [e,nl] at b
      cases b
   refine ⟨_,rfl,_,rfl,pd,_,rfl,DGet.k (k:=.inl (i:Int)) e2,_,rfl,?_⟩
   cases z:(q67 kvs (.inl (i:Int))).isSome with
   | true =>
    refine q30 (q30 (stay (Same.refl _) (Bool.eq_false_iff.mpr λw=>?_)))
    exact ((qs4 hrs hi).mp w).2 ((pl i hi).mp (valV_some_iff.mp z))
   | false =>
    refine q48 ⟨_,rfl,_,rfl,t,dx,kp,bt,n,m,rs,i,rfl,tab.mono b2.same,hi,λH3 s3=>⟨_,rfl,?_⟩⟩
    cases o:opB rs i with
    | false=>exact q30 (stay s3 (by unfold qr3; rw [o,Bool.false_and]))
    | true =>
     have ll:qr3 rs i=true:=(qs4 hrs hi).mpr ⟨o,λw=>by
      have:=valV_some_iff.mpr ((pl i hi).mpr w)
      rw [z] at this
      cases this⟩
     have b3:=b2.mono s3
     refine q48 ⟨_,rfl,_,rfl,t,dx,kp,bt,n,m,rs,i,rfl,tab.mono b3.same,hrs,hi,n12,ll,λb H4 hb a4=>?_⟩
     obtain ⟨bs,e4,lb,b5⟩:=b3.put hb a4
     refine ⟨_,rfl,.inl ⟨rfl,_,SqL.of e4⟩,_,rfl,p,_,_,rfl,rfl,e4,?_,?_⟩
     ·rw [List.length_map,lb,List.length_map]
      have:=qd2 rs i
      exact Nat.lt_of_le_of_lt (show _<=12 by omega) (by decide)
     obtain ⟨as,ea,ta⟩:=a4.at_
     have bp:b≠p:=λw=>by
      obtain ⟨bs',e',_⟩:=b3.at_
      rw [w,e'] at hb
      cases hb
     have pdp:pd≠p:=λw=>by
      obtain ⟨bs',e',_⟩:=b2.at_
      rw [<- w,e2] at e'
      cases e'
     have ed:upd H4 p (.lst (bs.map V.ref ++ [.ref b])) pd=some (.dK kvs):=by rw [q07 pdp]; exact a4.same _ _ (s3 _ _ e2)
     have eb:upd H4 p (.lst (bs.map V.ref ++ [.ref b])) b=some (.lst (as.map V.ref)):=by rw [q07 bp]; exact ea
     have ts:=qJ2 (ta.upd (zs:=bs.map V.ref ++ [.ref b]) e4)
     generalize upd H4 p (.lst (bs.map V.ref ++ [.ref b]))=H5 at *
     refine ⟨_,rfl,.inr (.inr (.inl ⟨rfl,.inl ⟨_,ed⟩⟩)),_,rfl,b,as,_,rfl,SqL.of eb,ts,λdc hdc=>?_⟩
     have sd:=Same.new (o:=.dK (qd8 [] ((bun rs n i).map qz5))) hdc
     have m0:=qe8 ((bun rs n i).map qz5) []
     have m1:=qe8 (qd8 [] ((bun rs n i).map qz5)) kvs
     have m2:=bun_len rs n i
     rw [List.length_map] at m0
     have nd:pd≠dc:=λw=>by rw [<- w,ed] at hdc; cases hdc
     refine ⟨pd,dc,_,_,rfl,rfl,sd _ _ ed,q01,nd,Nat.le_trans (show _<=1000 by simp at m0; omega) (by decide),?_⟩
     refine ⟨_,_,_,rfl,?_,q01,by simp at m0; omega,λr hr=>?_⟩
     ·rw [qi4,ll,if_pos rfl,List.map_append]
      exact (b5.mono sd).offD pd0 (sd _ _ ed)
     ·rw [qk5,qk5,pl r hr,z44]
      constructor
      ·rintro (⟨l,a,b⟩ | a | ⟨_,a⟩)
       ·exact ⟨l,by omega,b⟩
       ·cases a
       ·exact ⟨i,Nat.lt_succ_self _,ll,a⟩
      ·rintro ⟨l,a,b,c⟩
       by_cases e:l=i
       ·rw [e] at c
        exact .inr (.inr ⟨hr,c⟩)
       ·exact .inl ⟨l,by omega,b,c⟩
  ·rintro σ H2 ⟨v3,v4,kvs,rfl,b2,_⟩
   exact ⟨_,rfl,k p H2 b2⟩
def qt8 (C:Addr):Sp:=λvs H Q _=>∃(t dx kp bt:Addr) (n m:Nat) (rs:List Str),vs=[.ref t]/\TabAt C H t dx kp bt n m rs/\(∀ x∈rs,Row n x)/\1<=n/\n<=12/\∀ p H',H p=none->Same H H'->H' p=some (.lst ((q32 rs n).map iN))->Q (.ref p) H'
theorem qP0:FnScope ["table"] ["table"] (q02 qa5):=⟨rfl,rfl,rfl,by decide +kernel,rfl,by decide +kernel,by decide +kernel⟩
theorem nd_lo:(["bundle"]:List Str).Nodup:=by decide +kernel
theorem qz7 {f fg:Addr}{fd gg:FuncData}(D:Df K mg "lowest_questions" qa5 ["table"] f fd) (Dg:Df K mg "bundles" q80 ["table"] fg gg) (Gg:FnOk P w K mg base (CXE P w) 6 fg gg ["table"] (qy6 C)):FnOk P w K mg base (CXE P w) 7 f fd ["table"] (qt8 C):=by
 refine D.F.okN qP0 (λvs H Q E h=>?_) (λcdv A outer s H vs Q E hr h=>?_)
 ·obtain ⟨t,dx,kp,bt,n,m,rs,rfl,_⟩:=h
  rfl
 ·obtain ⟨t,dx,kp,bt,n,m,rs,rfl,tab,hrs,n1,n12,k⟩:=h
  refine ⟨_,q05 (q13 (q38 (N':=["bundle"]) (fm:=[none]) rfl ⟨rfl,by decide +kernel,by decide +kernel,rfl,rfl,rfl⟩
   (q27 (q23 Dg Gg hr q19 (q00 (pv 0) q03))) (λ_ _ _ _=>q09 (i:=0) nd_lo rfl (Or.inl rfl)) (λ_ _ _ _=>q35)
   (λ_ _ _ _=>q25 (r:=rIxT K) ix_tup (q25 (r:=qP4 K) ix_list (pv 0) q06 (λ_ _=>rfl)) q06 (λ_ _=>rfl)))),?_⟩
  refine ⟨_,rfl,t,dx,kp,bt,n,m,rs,rfl,tab,hrs,n1,n12,λq H1 b1=>?_⟩
  obtain ⟨bs,e1,l1,f1,g1⟩:=b1.at_
  refine ⟨q,rfl,⟨_,SqL.of e1⟩,λp hp=>?_⟩
  have lb:bs.length=(q32 rs n).length:=by rw [l1]; unfold bnl; rw [List.length_map]
  refine q57 (K:=K) (a:=q) (xs:=bs.map V.ref) (λi σ H2=>∃ v,σ=[v]/\Same H1 H2/\H2 p=some (.lst (((q32 rs n).take i).map iN))) ⟨none,rfl,Same.new hp,q01⟩ (λi σ H2 _ ⟨_,_,s2,_⟩=>SqL.of (s2 _ _ e1)) ?_ ?_
  ·rintro i y σ H2 hi ⟨v,rfl,s2,e2⟩
   rw [List.getElem?_map] at hi
   cases z:bs[i]? with
   | none=>rw [z] at hi; cases hi
   | some b =>
    rw [z] at hi
    cases hi
    have il:=(List.getElem?_eq_some_iff.mp z).1
    have y:(q32 rs n)[i]? = some (q32 rs n)[i]:=List.getElem?_eq_getElem (by omega)
    have mem:=List.mem_of_getElem? y
    generalize (q32 rs n)[i]=l at *
    unfold q32 at mem
    rw [List.mem_filter,List.mem_range] at mem
    obtain ⟨tl,et⟩:=qI2 hrs mem.1 mem.2
    obtain ⟨as,ea,ta⟩:=g1 i b (bun rs n l) z (by unfold bnl; rw [List.getElem?_map,y]; rfl)
    rw [et] at ta
    cases as with
    | nil=>exact absurd ta.1 (by simp)
    | cons a0 at' =>
     have ea0:=ta.2 0 a0 _ rfl rfl
     refine q34 ⟨_,rfl,b,_,_,_,rfl,rfl,SqL.of (s2 _ _ ea),(show atI _ ((0:Nat):Int)=_ from q43 rfl),a0,_,_,_,rfl,rfl,SqT.of (s2 _ _ ea0),rfl,_,e2,?_,_,rfl,Same.grow hp s2,?_⟩
     ·rw [List.length_map,List.length_take]
      have:=qd2 rs n
      exact Nat.lt_of_le_of_lt (show _<=12 by omega) (by decide)
     ·rw [q01,List.take_add_one,y,List.map_append]
      rfl
  ·rintro σ H2 ⟨v,rfl,s2,e2⟩
   rw [List.length_map,lb,List.take_length] at e2
   refine k p H2 ?_ (b1.same.trans' s2) e2
   cases z:H p with
   | none=>rfl
   | some o=>rw [b1.same _ _ z] at hp; cases hp
abbrev qg9:Stmt:=top 32
abbrev q74:Stmt:=top 27
abbrev q51:Stmt:=top 68
def cr4 (rs:List Str)(q r:Nat):List Bool:=[decide (0 < q29 rs q 110 r 110),decide (0 < q29 rs q 110 r 121),decide (0 < q29 rs q 121 r 110),decide (0 < q29 rs q 121 r 121)]
def crB (rs:List Str)(q r:Nat):Bool:=(cr4 rs q r).all id
def crF (rs:List Str)(L:List Nat)(k l:Nat):List (List Key):=if crB rs (L.getD k 0) (L.getD l 0)=true then [qk k l] else []
def crK (rs:List Str)(L:List Nat)(k j:Nat):List (List Key):=(List.range j).flatMap λd=>crF rs L k (k + 1 + d)
def qw8 (rs:List Str)(L:List Nat)(i:Nat):List (List Key):=(List.range i).flatMap λk=>crK rs L k (L.length - (k + 1))
def crG (rs:List Str)(L:List Nat)(k l:Nat):List (List Key):=if k < l/\crB rs (L.getD k 0) (L.getD l 0)=true then [qk k l] else []
def crM (rs:List Str)(L:List Nat)(k j:Nat):List (List Key):=(List.range j).flatMap (crG rs L k)
theorem qi7 {α:Type}(f:Nat->List α)(j:Nat):(List.range (j + 1)).flatMap f=(List.range j).flatMap f ++ f j:=by rw [List.range_succ,List.flatMap_append]; simp
theorem qi8 {α:Type}{f:Nat->List α}{m:Nat}(h:∀ k,(f k).length<=m):∀ j,((List.range j).flatMap f).length<=j * m
 | 0=>by simp
 | j + 1=>by
  rw [qi7,List.length_append,Nat.succ_mul]
  exact Nat.add_le_add (qi8 h j) (h j)
theorem crF_len (rs:List Str)(L:List Nat)(k l:Nat):(crF rs L k l).length<=1:=by unfold crF; split <;> simp
theorem crG_len (rs:List Str)(L:List Nat)(k l:Nat):(crG rs L k l).length<=1:=by unfold crG; split <;> simp
theorem crK_len (rs:List Str)(L:List Nat)(k j:Nat):(crK rs L k j).length<=j:=by
 have:=qi8 (f:=λd=>crF rs L k (k + 1 + d)) (λd=>crF_len rs L k (k + 1 + d)) j
 unfold crK
 omega
theorem crM_len (rs:List Str)(L:List Nat)(k j:Nat):(crM rs L k j).length<=j:=by
 have:=qi8 (f:=crG rs L k) (crG_len rs L k) j
 unfold crM
 omega
theorem qH9 (rs:List Str)(L:List Nat)(i:Nat):(qw8 rs L i).length<=i * L.length:=qi8 (λk=>Nat.le_trans (crK_len rs L k _) (Nat.sub_le _ _)) i
theorem qV8 {rs:List Str}{L:List Nat}{i:Nat}{k:List Key}(h:k∈qw8 rs L i):k.length<=5000:=by
 obtain ⟨p,_,h⟩:=List.mem_flatMap.mp h
 obtain ⟨p',_,h⟩:=List.mem_flatMap.mp h
 unfold crF at h
 split at h
 ·rw [List.mem_singleton.mp h]; exact (by decide:(2:Nat)<=5000)
 ·cases h
theorem crM_crK {rs:List Str}{L:List Nat}{k:Nat}(hk:k < L.length):crM rs L k L.length=crK rs L k (L.length - (k + 1)):=by
 unfold crM crK
 have e:List.range L.length=List.range (k + 1) ++ (List.range (L.length - (k + 1))).map (k + 1 + ·):=by rw [<- List.range_add]; congr 1; omega
 rw [e,List.flatMap_append,List.flatMap_map]
 have z:(List.range (k + 1)).flatMap (crG rs L k)=[]:=by
  refine List.flatMap_eq_nil_iff.mpr λr hr=>?_
  have:=List.mem_range.mp hr
  unfold crG
  rw [if_neg (λw=>by omega)]
 rw [z,List.nil_append]
 congr 1
 funext d
 unfold crG crF
 by_cases c:crB rs (L.getD k 0) (L.getD (k + 1 + d) 0)=true
 ·rw [if_pos c,if_pos ⟨by omega,c⟩]
 ·rw [if_neg c,if_neg (λw=>c w.2)]
def qO2 (C:Addr):Sp:=λvs H Q _=>∃(t dx kp bt:Addr) (n m:Nat) (rs:List Str) (q r:Nat),vs=[.ref t,.int q,.int r]/\TabAt C H t dx kp bt n m rs/\q < n/\r < n/\∀ H',Same H H'->Q (.bl (crB rs q r)) H'
abbrev N_cr:List Str:=["table", "q", "r"]
abbrev P_cr:List Str:=["table", "q", "r"]
theorem sc_cr:FnScope N_cr P_cr (q02 qg9):=⟨rfl,rfl,rfl,by decide +kernel,rfl,by decide +kernel,by decide +kernel⟩
abbrev N_cr1:List Str:=["a", "b", "table", "q", "r"]
theorem z85:N_cr1.Nodup:=by decide +kernel
theorem z33 {f:Addr}{fd:FuncData}(D:Df K mg "cross" qg9 P_cr f fd) (T:Tb K mg C fi fa ft fy fm fc gi ga gt gy gm gc) (Gc:FnOk P w K mg base (CXE P w) 3 fc gc Ptc (qa4 C)) (B:Bt mg) (M:Gm mg):FnOk P w K mg base (CXE P w) 4 f fd P_cr (qO2 C):=by
 refine D.F.okN sc_cr (λvs H Q E h=>?_) (λcdv A outer s H vs Q E hr h=>?_)
 ·obtain ⟨t,dx,kp,bt,n,m,rs,q,r,rfl,_⟩:=h
  rfl
 ·obtain ⟨t,dx,kp,bt,n,m,rs,q,r,rfl,tab,hq,hr',k⟩:=h
  obtain ⟨tk,mS⟩:=M.signs
  refine ⟨_,q05 (q13 (q12 (q90 rfl) (by rfl) B.all (by rfl) (q00 (qn0 (N':=N_cr1) (fm:=[none,none,some 0,some 1,some 2]) rfl ⟨rfl,by decide +kernel,by decide +kernel,rfl,rfl,rfl⟩ (qm2 (qe5 (v:=.str "ny") (by rfl) mS ⟨tk,rfl⟩)) (λ_ _ _ _=>(q09 (i:=0) z85 rfl (Or.inl rfl))) (λ_ _ _ _=>q35) (λ_ _ _ _ _=>(qv1 rfl (λ_ _ z=>z) (qm2 (qe5 (v:=.str "ny") (by rfl) mS ⟨tk,rfl⟩)) (q09 (i:=1) z85 rfl (Or.inl rfl)) q35 (qv2 (λ_ _ z=>z) (q50 qJ8 (q87 (pv 2) T.cl T.mc Gc (hr.mono (by decide)) T.bc .nil q19 (q00 (pv 3) (q00 (pv 0) (q00 (pv 4) (q00 (pv 1) q03))))) q06 (q14 _)))))) q03))),?_⟩
  refine ⟨_,rfl,λp hp=>?_⟩
  have two:("ny" : Str).length=2:=by decide +kernel
  have pos:∀ a b:Nat,decide ((0:Int) < (q29 rs q a r b:Nat))=decide (0 < q29 rs q a r b):=λa b=>decide_eq_decide.mpr ⟨λh=>by omega,λh=>by omega⟩
  have step:∀{H2 H6:Hp} {i:Nat} {a b:Nat},Same H H2->H2 p=some (.lst (((cr4 rs q r).take i).map V.bl))->i < 4->(cr4 rs q r)[i]? = some (decide (0 < q29 rs q a r b))->Same H2 H6 ->
    ∃ ys,H6 p=some (.lst ys)/\ys.length < sizeLine/\Same H (upd H6 p (.lst (ys ++ [V.bl (decide ((0:Int) < (q29 rs q a r b:Nat)))])))/\upd H6 p (.lst (ys ++ [V.bl (decide ((0:Int) < (q29 rs q a r b:Nat)))])) p=some (.lst (((cr4 rs q r).take (i + 1)).map V.bl)):=by
   intro H2 H6 i a b s2 e2 hi z s6
   refine ⟨_,s6 _ _ e2,?_,Same.grow hp (s2.trans' s6),?_⟩
   ·rw [List.length_map,List.length_take]
    exact Nat.lt_of_le_of_lt (show _<=4 by omega) (by decide)
   ·rw [q01,List.take_add_one,z,List.map_append,pos]
    rfl
  refine qS5 (x := "ny") (λi σ H2=>∃ v0 v1,σ=[v0,v1,some (.ref t),some (.int q),some (.int r)]/\Same H H2/\H2 p=some (.lst (((cr4 rs q r).take (2 * i)).map V.bl))) ⟨none,none,rfl,Same.new hp,q01⟩ ?_ ?_
  ·rintro i σ H2 hi ⟨v0,v1,rfl,s2,e2⟩
   rw [two] at hi
   have hi':i=0∨i=1:=by omega
   refine qb5 ⟨_,rfl,?_⟩
   rcases hi' with rfl | rfl
   ·refine qS5 (x := "ny") (λj σ H3=>∃ v1,σ=[some (s1 110),v1,some (.ref t),some (.int q),some (.int r)]/\Same H H3/\H3 p=some (.lst (((cr4 rs q r).take (2 * 0 + j)).map V.bl))) ⟨_,rfl,s2,e2⟩ ?_ ?_
    ·rintro j σ H3 hj ⟨v1,rfl,s3,e3⟩
     rw [two] at hj
     have hj':j=0∨j=1:=by omega
     have tab3:=tab.mono s3
     rcases hj' with rfl | rfl
     ·refine qb5 ⟨_,rfl,t,dx,_,rfl,tab3.ins,rfl,_,rfl,_,rfl,_,rfl,_,rfl,t,dx,kp,bt,n,m,rs,q,110,r,110,rfl,tab3,hq,hr',.inr rfl,.inr rfl,λH6 s6=>?_⟩
      obtain ⟨ys,y1,y2,y3,y4⟩:=step (a:=110) (b:=110) s3 e3 (by decide) rfl s6
      exact ⟨_,_,rfl,rfl,ys,y1,y2,_,rfl,y3,y4⟩
     ·refine qb5 ⟨_,rfl,t,dx,_,rfl,tab3.ins,rfl,_,rfl,_,rfl,_,rfl,_,rfl,t,dx,kp,bt,n,m,rs,q,110,r,121,rfl,tab3,hq,hr',.inr rfl,.inl rfl,λH6 s6=>?_⟩
      obtain ⟨ys,y1,y2,y3,y4⟩:=step (a:=110) (b:=121) s3 e3 (by decide) rfl s6
      exact ⟨_,_,rfl,rfl,ys,y1,y2,_,rfl,y3,y4⟩
    ·rintro σ H3 ⟨v1,rfl,s3,e3⟩
     exact ⟨_,_,rfl,s3,by rw [two] at e3; exact e3⟩
   ·refine qS5 (x := "ny") (λj σ H3=>∃ v1,σ=[some (s1 121),v1,some (.ref t),some (.int q),some (.int r)]/\Same H H3/\H3 p=some (.lst (((cr4 rs q r).take (2 * 1 + j)).map V.bl))) ⟨_,rfl,s2,e2⟩ ?_ ?_
    ·rintro j σ H3 hj ⟨v1,rfl,s3,e3⟩
     rw [two] at hj
     have hj':j=0∨j=1:=by omega
     have tab3:=tab.mono s3
     rcases hj' with rfl | rfl
     ·refine qb5 ⟨_,rfl,t,dx,_,rfl,tab3.ins,rfl,_,rfl,_,rfl,_,rfl,_,rfl,t,dx,kp,bt,n,m,rs,q,121,r,110,rfl,tab3,hq,hr',.inl rfl,.inr rfl,λH6 s6=>?_⟩
      obtain ⟨ys,y1,y2,y3,y4⟩:=step (a:=121) (b:=110) s3 e3 (by decide) rfl s6
      exact ⟨_,_,rfl,rfl,ys,y1,y2,_,rfl,y3,y4⟩
     ·refine qb5 ⟨_,rfl,t,dx,_,rfl,tab3.ins,rfl,_,rfl,_,rfl,_,rfl,_,rfl,t,dx,kp,bt,n,m,rs,q,121,r,121,rfl,tab3,hq,hr',.inl rfl,.inl rfl,λH6 s6=>?_⟩
      obtain ⟨ys,y1,y2,y3,y4⟩:=step (a:=121) (b:=121) s3 e3 (by decide) rfl s6
      exact ⟨_,_,rfl,rfl,ys,y1,y2,_,rfl,y3,y4⟩
    ·rintro σ H3 ⟨v1,rfl,s3,e3⟩
     exact ⟨_,_,rfl,s3,by rw [two] at e3; exact e3⟩
  ·rintro σ H2 ⟨v0,v1,rfl,s2,e2⟩
   rw [two] at e2
   exact ⟨p,_,rfl,SqL.of e2,k H2 s2⟩
def qr4 (C:Addr):Sp:=λvs H Q _=>∃(t dx kp bt:Addr) (n m:Nat) (rs:List Str),vs=[.ref t]/\TabAt C H t dx kp bt n m rs/\(∀ x∈rs,Row n x)/\1<=n/\n<=12/\∀ p H',H p=none->Acc H p H' (qw8 rs (q32 rs n) (q32 rs n).length)->Q (.ref p) H'
abbrev N_cg:List Str:=["table", "lowest"]
abbrev P_cg:List Str:=["table"]
theorem sc_cg:FnScope N_cg P_cg (q02 q74):=⟨rfl,rfl,rfl,by decide +kernel,rfl,by decide +kernel,by decide +kernel⟩
abbrev N_cg1:List Str:=["k", "q", "l", "r", "lowest", "table"]
theorem qG4:N_cg1.Nodup:=by decide +kernel
theorem z86 {rs:List Str}{n k q:Nat}(h:(q32 rs n)[k]? = some q):q < n:=by
 have:=List.mem_of_getElem? h
 unfold q32 at this
 rw [List.mem_filter,List.mem_range] at this
 exact this.1
theorem qw2 {L:List Nat}{k q:Nat}(h:L[k]? = some q):L.getD k 0=q:=by rw [List.getD_eq_getElem?_getD,h]; rfl
theorem qC1 {f fg fx:Addr}{fd gg gx:FuncData}(D:Df K mg "crossing" q74 P_cg f fd) (Dg:Df K mg "lowest_questions" qa5 ["table"] fg gg) (Gg:FnOk P w K mg base (CXE P w) 7 fg gg ["table"] (qt8 C)) (Dx:Df K mg "cross" qg9 P_cr fx gx) (Gx:FnOk P w K mg base (CXE P w) 4 fx gx P_cr (qO2 C)) (M:Gm mg):FnOk P w K mg base (CXE P w) 8 f fd P_cg (qr4 C):=by
 refine D.F.okN sc_cg (λvs H Q E h=>?_) (λcdv A outer s H vs Q E hr h=>?_)
 ·obtain ⟨t,dx,kp,bt,n,m,rs,rfl,_⟩:=h
  rfl
 ·obtain ⟨t,dx,kp,bt,n,m,rs,rfl,tab,hrs,n1,n12,k⟩:=h
  refine ⟨_,q04 (q18 (i:=1) sc_cg.nd rfl (Or.inr rfl) (q23 Dg Gg (hr.mono (by decide)) q19 (q00 (pv 0) q03)))
   (q05 (q13 (qn0 (g:=(qM3 K 2 (qa1 (q81 0) (qa1 (q81 1) qM4)))) (N':=N_cg1) (fm:=[none,none,none,none,some 1,some 0]) rfl ⟨rfl,by decide +kernel,by decide +kernel,rfl,rfl,rfl⟩ (qf2 (by rfl) M.enum (q00 (pv 1) q03)) (λ_ _ _ _=>(q64 rfl (q17 (q09 (i:=0) qG4 rfl (Or.inl rfl)) (q17 (q09 (i:=1) qG4 rfl (Or.inl rfl)) q44)))) (λ_ _ _ _=>q35) (λ_ _ _ _ _=>(qv1 (wi:=z89 K (qh4 (qE8 4) qX6)) (g:=(qM3 K 2 (qa1 (q81 2) (qa1 (q81 3) qM4)))) rfl (λ_ _ z=>z) (qf2 (by rfl) M.enum (q00 (pv 4) q03)) (q64 rfl (q17 (q09 (i:=2) qG4 rfl (Or.inl rfl)) (q17 (q09 (i:=3) qG4 rfl (Or.inl rfl)) q44))) (q86 (PW.pt (q72 (q11 qk4 (pv 0) (pv 2) (q14 _)) (q53 (q52 (q23 Dx Gx (hr.mono (by decide)) q19 (q00 (pv 5) (q00 (pv 1) (q00 (pv 3) q03))))))))) (qv2 (λ_ _ z=>z) (q54 (q00 (pv 0) (q00 (pv 2) q03))))))))),?_⟩
  refine ⟨_,rfl,t,dx,kp,bt,n,m,rs,rfl,tab,hrs,n1,n12,λlw H1 hlw s1' e1=>?_⟩
  refine ⟨_,rfl,lw,rfl,⟨_,SqL.of e1⟩,λp hp=>?_⟩
  have L12:(q32 rs n).length<=12:=Nat.le_trans (qd2 rs n) n12
  refine qv9 (K:=K) (a:=lw) (xs:=(q32 rs n).map iN) (λi σ H2=>∃ v0 v1 v2 v3,σ=[v0,v1,v2,v3,some (.ref lw),some (.ref t)]/\Acc H1 p H2 (qw8 rs (q32 rs n) i)) ⟨none,none,none,none,rfl,Same.new hp,[],q01,.nil⟩ (λi σ H2 _ ⟨_,_,_,_,_,a2⟩=>SqL.of (a2.same _ _ e1)) ?_ ?_
  ·rintro i y T1 σ H2 hi hT1 ⟨v0,v1,v2,v3,rfl,a2⟩
   rw [List.getElem?_map] at hi
   cases zi:(q32 rs n)[i]? with
   | none=>rw [zi] at hi; cases hi
   | some q =>
    rw [zi] at hi
    cases hi
    have il:=(List.getElem?_eq_some_iff.mp zi).1
    have a2:=a2.mono (Same.new (o:=.tup [.int i,iN q]) hT1)
    refine qk6 (SqT.of q01) ?_
    generalize upd H2 T1 (.tup [.int i,iN q])=H2' at *
    refine ⟨_,rfl,lw,rfl,⟨_,SqL.of (a2.same _ _ e1)⟩,?_⟩
    refine qv9 (K:=K) (a:=lw) (xs:=(q32 rs n).map iN) (λj σ H3=>∃ v2 v3,σ=[some (.int i),some (iN q),v2,v3,some (.ref lw),some (.ref t)]/\Acc H1 p H3 (qw8 rs (q32 rs n) i ++ crM rs (q32 rs n) i j)) ⟨_,_,rfl,by rw [show crM rs (q32 rs n) i 0=[] from rfl,List.append_nil]; exact a2⟩ (λi σ H3 _ ⟨_,_,_,a3⟩=>SqL.of (a3.same _ _ e1)) ?_ ?_
    ·rintro j y T2 σ H3 hj hT2 ⟨v2,v3,rfl,a3⟩
     rw [List.getElem?_map] at hj
     cases zj:(q32 rs n)[j]? with
     | none=>rw [zj] at hj; cases hj
     | some r =>
      rw [zj] at hj
      cases hj
      have a3:=a3.mono (Same.new (o:=.tup [.int j,iN r]) hT2)
      have sn:qw8 rs (q32 rs n) i ++ crM rs (q32 rs n) i (j + 1)=(qw8 rs (q32 rs n) i ++ crM rs (q32 rs n) i j) ++ crG rs (q32 rs n) i j:=by
       rw [List.append_assoc]
       congr 1
       exact qi7 _ _
      refine ⟨T2,_,rfl,SqT.of q01,rfl,_,_,rfl,_,_,rfl,rfl,?_⟩
      generalize upd H3 T2 (.tup [.int j,iN r])=H3' at *
      have no:∀{H6:Hp},Same H3' H6->crG rs (q32 rs n) i j=[]->∃ v2 v3,[some (V.int i),some (iN q),some (V.int j),some (iN r),some (V.ref lw),some (V.ref t)]=[some (.int i),some (iN q),v2,v3,some (.ref lw),some (.ref t)]/\Acc H1 p H6 (qw8 rs (q32 rs n) i ++ crM rs (q32 rs n) i (j + 1)):=λs6 e=>by
       refine ⟨_,_,rfl,?_⟩
       rw [sn,e,List.append_nil]
       exact a3.mono s6
      refine ⟨_,rfl,_,rfl,_,_,rfl,rfl,_,rfl,qd4 (λc=>?_) (λc=>?_)⟩
      ·have c:(i:Int) < j:=of_decide_eq_true c
       refine ⟨_,rfl,_,rfl,_,rfl,t,dx,kp,bt,n,m,rs,q,r,rfl,tab.mono (s1'.trans' a3.same),z86 zi,z86 zj,λH6 s6=>⟨_,rfl,?_⟩⟩
       cases z:crB rs q r with
       | false=>exact q30 (no s6 (by unfold crG; rw [qw2 zi,qw2 zj,z,if_neg (λw=>by cases w.2)]))
       | true =>
        have e:crG rs (q32 rs n) i j=[qk i j]:=by unfold crG; rw [qw2 zi,qw2 zj,z,if_pos ⟨by omega,rfl⟩]
        refine q48 ⟨_,rfl,_,rfl,q22 (show 2<=100 by decide),λT3 hT3=>?_⟩
        obtain ⟨ys,y1,y2,a4⟩:=a3.put (k:=qk i j) hp s6 hT3
        refine ⟨ys,y1,?_,_,_,rfl,?_⟩
        ·have h1:=qH9 rs (q32 rs n) i
         have h2:=crM_len rs (q32 rs n) i j
         have jl:=(List.getElem?_eq_some_iff.mp zj).1
         have h3:i * (q32 rs n).length<=12 * 12:=Nat.mul_le_mul (by omega) L12
         rw [y2,List.length_append]
         exact Nat.lt_of_le_of_lt (show _<=200 by omega) (by decide)
        ·rw [sn,e]
         exact a4
      ·have c:¬ (i:Int) < j:=λw=>c (decide_eq_true w)
       exact q30 (no (Same.refl _) (by unfold crG; rw [if_neg (λw=>by omega)]))
    ·rintro σ H3 ⟨v2,v3,rfl,a3⟩
     refine ⟨_,_,_,_,rfl,?_⟩
     rw [List.length_map,crM_crK il] at a3
     have e:qw8 rs (q32 rs n) (i + 1)=qw8 rs (q32 rs n) i ++ crK rs (q32 rs n) i ((q32 rs n).length - (i + 1)):=qi7 _ _
     rw [e]
     exact a3
  ·rintro σ H2 ⟨v0,v1,v2,v3,rfl,a2⟩
   rw [List.length_map] at a2
   refine k p H2 ?_ (a2.back s1')
   cases z:H p with
   | none=>rfl
   | some o=>rw [s1' _ _ z] at hp; cases hp
abbrev ql7:Stmt:=top 66
theorem in_iN (q:Nat)(L:List Nat):inV (iN q) (L.map iN)=decide (q∈L):=by
 unfold inV
 rw [List.any_map,Bool.eq_iff_iff,List.any_eq_true,decide_eq_true_iff]
 constructor
 ·rintro ⟨x,hx,e⟩
  have e:((x:Int) == (q:Int))=true:=e
  have e:(x:Int)=q:=by simpa using e
  have:x=q:=by omega
  rw [<- this]; exact hx
 ·intro h
  exact ⟨q,h,show ((q:Int) == (q:Int))=true by simp⟩
theorem qk8 (L:List Nat):(L.map iN).all qi9=true:=by
 rw [List.all_map,List.all_eq_true]
 exact λ_ _=>rfl
theorem q82 {α:Type}{p:α->Bool}{l:List α}{i:Nat}{a:α}(h:l[i]? = some a):(l.take (i + 1)).filter p=(l.take i).filter p ++ (if p a=true then [a] else []):=by
 rw [List.take_add_one,h,List.filter_append]
 congr 1
 cases z:p a <;> simp [z]
def z69 (K:PySem.W.Frag):Sp:=λvs H Q _=>∃(l:Addr) (n:Nat) (rs:List Str),vs=[.ref l,.int n]/\SqL K H l (rs.map V.str)/\(∀ x∈rs,Row n x)/\n<=12/\∀ p H',Buns H p H' (bnl rs n)->Q (.ref p) H'
abbrev N_lb:List Str:=["_law_rows_here", "_law_n", "_law_left", "_law_found", "_law_low", "_law_alike", "_law_apart"]
abbrev P_lb:List Str:=["_law_rows_here", "_law_n"]
theorem sc_lb:FnScope N_lb P_lb (q02 ql7):=⟨rfl,rfl,rfl,by decide +kernel,rfl,by decide +kernel,by decide +kernel⟩
abbrev N_lb1:List Str:=["_law_q", "_law_rows_here"]
theorem nd_lb1:N_lb1.Nodup:=by decide +kernel
abbrev N_lb2:List Str:=["_law_q", "_law_rows_here", "_law_low"]
theorem nd_lb2:N_lb2.Nodup:=by decide +kernel
abbrev N_lb3:List Str:=["_law_q", "_law_rows_here", "_law_low"]
theorem nd_lb3:N_lb3.Nodup:=by decide +kernel
abbrev N_lb4:List Str:=["_law_q", "_law_alike", "_law_apart"]
theorem nd_lb4:N_lb4.Nodup:=by decide +kernel
abbrev N_lb5:List Str:=["_law_q", "_law_alike", "_law_apart"]
theorem nd_lb5:N_lb5.Nodup:=by decide +kernel
theorem ok_lbun {f fb:Addr}{fd gb:FuncData}(D:Df K mg "_law_bundles" ql7 P_lb f fd) (Db:Df K mg "_law_bears" qc9 Pbe fb gb) (B:Bt mg):FnOk P w K mg base (CXE P w) 2 f fd P_lb (z69 K):=by
 refine D.F.okN sc_lb (λvs H Q E h=>?_) (λcdv A outer s H vs Q E hr h=>?_)
 ·obtain ⟨l,n,rs,rfl,_⟩:=h
  rfl
 ·obtain ⟨l,n,rs,rfl,hl,hrs,n12,k⟩:=h
  have hu:(A.deeper (envOfC "_law_bundles" (q02 ql7) s.heap.objs.size f cdv)).units < cLine:=hr.units0
  refine ⟨_,q04 (qu8 (i:=2) (N':=N_lb1) (fm:=[none,some 0]) rfl sc_lb.nd rfl rfl ⟨rfl,by decide +kernel,by decide +kernel,rfl,rfl,rfl⟩ (q31 (by rfl) B.range (q00 (pv 1) q03)) (λ_ _ _ _=>(q09 (i:=0) nd_lb1 rfl (Or.inl rfl))) (λ_ _ _ _=>(q86 (PW.pt (q72 (q11 (r:=z77 K) (qn2 hu) (pv 1) (q42 q03) (q14 _)) (q72 (q52 (q23 Db (qa8 Db) (hr.mono (by decide)) q19 (q00 (pv 1) (q00 (pv 0) (q00 q15 (q00 (pv 0) (q00 q15 q03))))))) (q53 (q52 (q23 Db (qa8 Db) (hr.mono (by decide)) q19 (q00 (pv 1) (q00 (pv 0) (q00 q15 (q00 (pv 0) (q00 q15 q03))))))))))))) (λ_ _ _ _=>(pv 0)))
   (q04 (q18 (i:=3) sc_lb.nd rfl (Or.inl rfl) (q42 q03))
   (q04 (z04 PassesOwn.never (q11 (qn2 hu) (pv 2) (q42 q03) (q14 _))
   (q04 (q18 (i:=4) sc_lb.nd rfl (Or.inr rfl) (q25 ix_list (pv 2) q06 (λ_ _=>rfl)))
   (q04 (q18 (i:=5) sc_lb.nd rfl (Or.inr rfl) (q38 (N':=N_lb2) (fm:=[none,some 0,some 4]) rfl ⟨rfl,by decide +kernel,by decide +kernel,rfl,rfl,rfl⟩ (q27 (pv 2)) (λ_ _ _ _=>(q09 (i:=0) nd_lb2 rfl (Or.inl rfl))) (λ_ _ _ _=>(q86 (PW.pt (q72 (qa7 (q52 (q23 Db (qa8 Db) (hr.mono (by decide)) q19 (q00 (pv 1) (q00 (pv 2) (q00 q15 (q00 (pv 0) (q00 q15 q03)))))))) (q53 (qa7 (q52 (q23 Db (qa8 Db) (hr.mono (by decide)) q19 (q00 (pv 1) (q00 (pv 2) (q00 q15 (q00 (pv 0) (q00 q15 q03))))))))))))) (λ_ _ _ _=>(pv 0))))
   (q04 (q18 (i:=6) sc_lb.nd rfl (Or.inr rfl) (q38 (N':=N_lb3) (fm:=[none,some 0,some 4]) rfl ⟨rfl,by decide +kernel,by decide +kernel,rfl,rfl,rfl⟩ (q27 (pv 2)) (λ_ _ _ _=>(q09 (i:=0) nd_lb3 rfl (Or.inl rfl))) (λ_ _ _ _=>(q86 (PW.pt (q72 (qa7 (q52 (q23 Db (qa8 Db) (hr.mono (by decide)) q19 (q00 (pv 1) (q00 (pv 2) (q00 q15 (q00 (pv 0) (q00 q15 q03)))))))) (q53 (qa7 (q52 (q23 Db (qa8 Db) (hr.mono (by decide)) q19 (q00 (pv 1) (q00 (pv 2) (q00 q15 (q00 (pv 0) (q00 q15 q03))))))))))))) (λ_ _ _ _=>(pv 0))))
   (q04 (q26 (qk1 PySem.F.plainAttrs_list PySem.F.slot_list_append PySem.F.type_list_append q45 (pv 3) (q00 (q38 (N':=N_lb4) (fm:=[none,some 5,some 6]) rfl ⟨rfl,by decide +kernel,by decide +kernel,rfl,rfl,rfl⟩ (q27 (pv 2)) (λ_ _ _ _=>(q09 (i:=0) nd_lb4 rfl (Or.inl rfl))) (λ_ _ _ _=>(q86 (PW.pt (qh7 (q11 (r:=rIn K false) q98 (pv 0) (pv 1) (by rfl)) (qb2 (q11 (r:=rIn K false) q98 (pv 0) (pv 2) (by rfl))))))) (λ_ _ _ _=>(q54 (q00 (pv 0) (q00 (qd0 (q11 (r:=rIn K false) q98 (pv 0) (pv 1) (by rfl)) q15 q15) q03))))) q03)))
   (q05 (qu8 (i:=2) (N':=N_lb5) (fm:=[none,some 5,some 6]) rfl sc_lb.nd rfl rfl ⟨rfl,by decide +kernel,by decide +kernel,rfl,rfl,rfl⟩ (q27 (pv 2)) (λ_ _ _ _=>(q09 (i:=0) nd_lb5 rfl (Or.inl rfl))) (λ_ _ _ _=>(q86 (PW.pt (q72 (q11 (r:=rIn K true) qe6 (pv 0) (pv 1) (by rfl)) (q53 (q11 (r:=rIn K true) qe6 (pv 0) (pv 2) (by rfl))))))) (λ_ _ _ _=>(pv 0)))))))))
   (q05 (q13 (pv 3))))),?_⟩
  refine ⟨_,rfl,_,rfl,by omega,by omega,λp0 hp0=>?_⟩
  have en:((n:Nat):Int).toNat=n:=by omega
  rw [en]
  have tkr:∀ i,i < n->(List.range n)[i]? = some i:=λi hi=>List.getElem?_range hi
  have opE:∀ q,(decide (rs≠[]) && (decide (0 < q29 rs q 121 q 121) && decide (0 < q29 rs q 110 q 110)))=opB rs q:=λq=>by
   unfold opB
   by_cases e:rs=[]
   ·subst e; rfl
   ·rw [decide_eq_true e,Bool.true_and,Bool.and_comm]
  have left0:q33 rs n 0=(List.range n).filter (opB rs):=by
   unfold q33
   refine List.filter_congr λr _=>?_
   rw [show (List.range 0).all (λl=>!tgB rs l r)=true from rfl,Bool.and_true]
  refine q85 (λi σ H2=>∃ v,σ=[v,some (.ref l)]/\Same H H2/\H2 p0=some (.lst ((((List.range n).take i).filter (opB rs)).map iN))) ⟨none,rfl,Same.new hp0,q01⟩ ?_ ?_
  ·rintro i σ H2 hi ⟨v,rfl,s2,e2⟩
   rw [Int.zero_add]
   have no:∀{H3:Hp},Same H2 H3->opB rs i=false->∃ v,[some (V.int i),some (V.ref l)]=[v,some (.ref l)]/\Same H H3/\H3 p0=some (.lst ((((List.range n).take (i + 1)).filter (opB rs)).map iN)):=λs3 f=>by
    refine ⟨_,rfl,s2.trans' s3,?_⟩
    rw [q82 (tkr i hi),f]
    simpa using s3 _ _ e2
   refine ⟨_,rfl,Nat.zero_le _,λpe hpe=>?_⟩
   have se:=Same.new (o:=.lst []) hpe
   refine ⟨l,pe,_,rfl,rfl,(s2.trans' se).seq hl,SqL.of q01,_,rfl,qd4 (λz0=>?_) (λz0=>?_)⟩
   ·have z0:(!(rs.map V.str).isEmpty)=true:=z0
    have z0:rs≠[]:=λe=>by subst e; cases z0
    refine ⟨_,rfl,_,rfl,_,rfl,l,n,rs,i,121,i,121,rfl,(s2.trans' se).seq hl,hrs,n12,hi,hi,_,rfl,?_⟩
    cases c1:decide (0 < q29 rs i 121 i 121) with
    | false=>exact q30 (q30 (no se (by rw [<- opE,c1,Bool.false_and,Bool.and_false])))
    | true =>
     refine q48 ⟨_,rfl,_,rfl,_,rfl,l,n,rs,i,110,i,110,rfl,(s2.trans' se).seq hl,hrs,n12,hi,hi,_,rfl,?_⟩
     cases c2:decide (0 < q29 rs i 110 i 110) with
     | false=>exact q30 (no se (by rw [<- opE,c1,c2]; simp))
     | true =>
      have o:opB rs i=true:=by rw [<- opE,c1,c2,decide_eq_true z0]; rfl
      refine q48 ⟨_,rfl,_,se _ _ e2,?_,_,rfl,Same.grow hp0 (s2.trans' se),?_⟩
      ·rw [List.length_map]
       have:=List.length_filter_le (opB rs) ((List.range n).take i)
       rw [List.length_take,List.length_range] at this
       exact Nat.lt_of_le_of_lt (show _<=12 by omega) (by decide)
      ·rw [q01,q82 (tkr i hi),o,if_pos rfl,List.map_append]
       rfl
   ·have z0:¬ (!(rs.map V.str).isEmpty)=true:=z0
    have z0:rs=[]:=by
     cases rs with
     | nil=>rfl
     | cons _ _=>exact absurd rfl z0
    exact q30 (no se (by rw [z0]; rfl))
  rintro σ H2 ⟨v,rfl,s2,e2⟩
  rw [show (List.range n).take n=List.range n from by rw [List.take_of_length_le]; rw [List.length_range]; exact Nat.le_refl _,<- left0] at e2
  refine ⟨Nat.zero_le _,λpf hpf=>?_⟩
  have sf:=Same.new (o:=.lst []) hpf
  have pf0:H pf=none:=by
   cases z:H pf with
   | none=>rfl
   | some o=>rw [s2 _ _ z] at hpf; cases hpf
  refine ⟨λm σ H3=>∃(k:Nat) (pl:Addr) (v4 v5 v6:Option V),σ=[some (.ref l),some (.int n),some (.ref pl),some (.ref pf),v4,v5,v6]/\k<=n/\pl≠pf/\Buns H pf H3 ((q32 rs k).map (bun rs n))/\H3 pl=some (.lst ((q33 rs n k).map iN))/\m=(q33 rs n k).length,⟨_,0,p0,none,none,none,rfl,Nat.zero_le _,(λe=>by rw [<- e,e2] at hpf; cases hpf),⟨s2.trans' sf,pf0,[],q01,rfl,(λ_ h=>by cases h),λ_ _ _ h=>by cases h⟩,sf _ _ e2,rfl⟩,?_⟩
  rintro m σ H3 ⟨k',pl,v4,v5,v6,rfl,kn,npf,b3,e3,rfl⟩
  refine ⟨_,rfl,Nat.zero_le _,λpe hpe=>?_⟩
  have se:=Same.new (o:=.lst []) hpe
  refine ⟨pl,pe,_,rfl,rfl,se.seq (SqL.of e3),SqL.of q01,_,rfl,qd4 (λz0=>?_) (λz0=>?_)⟩
  case refine_2 =>
   have z0:¬ (!((q33 rs n k').map iN).isEmpty)=true:=z0
   have z0:q33 rs n k'=[]:=by
    cases z:q33 rs n k' with
    | nil=>rfl
    | cons _ _=>rw [z] at z0; exact absurd rfl z0
   have b4:=b3.mono se
   rw [<- qT1 hrs kn z0] at b4
   exact ⟨_,rfl,k pf _ b4⟩
  have b4:=b3.mono se
  have e4:=se _ _ e3
  generalize upd H3 pe (.lst [])=H4 at *
  cases z:q33 rs n k' with
  | nil=>rw [z] at z0; exact absurd z0 (by decide)
  | cons low qf8 =>
  obtain ⟨ln,kl,ll,ls,lf,lm⟩:=qT0 hrs kn z
  have L12:(q33 rs n k').length<=12:=by
   have:=List.length_filter_le (λr=>opB rs r && (List.range k').all λl=>!tgB rs l r) (List.range n)
   rw [List.length_range] at this
   exact Nat.le_trans this n12
  have L0:(q33 rs n k')[0]? = some low:=by rw [z]; rfl
  have dn:∀ c:Nat,(!decide (0 < c))=decide (c=0):=λc=>by
   by_cases e:c=0
   ·rw [e]; rfl
   ·rw [decide_eq_true (show 0 < c by omega),decide_eq_false e]; rfl
  rw [<- z]
  refine ⟨λσ' H'=>∃(pl:Addr) (v4 v5 v6:Option V),σ'=[some (.ref l),some (.int n),some (.ref pl),some (.ref pf),v4,v5,v6]/\pl≠pf/\Buns H pf H' ((q32 rs (low + 1)).map (bun rs n))/\H' pl=some (.lst ((q33 rs n (low + 1)).map iN)),?_,?_⟩
  ·rintro σ' H' ⟨pl',v4',v5',v6',rfl,np',b',e'⟩
   refine ⟨_,?_,low + 1,pl',v4',v5',v6',rfl,ln,np',b',e',rfl⟩
   rw [<- lf]
   refine List.length_filter_lt_length_iff_exists.mpr ⟨low,List.mem_of_getElem? L0,?_⟩
   rw [qX1 hrs ln]
   simp
  refine ⟨_,rfl,pl,_,_,_,rfl,rfl,SqL.of e4,(show atI _ ((0:Nat):Int)=some (iN low) from q43 (by rw [List.getElem?_map,L0]; rfl)),?_⟩
  refine ⟨_,rfl,pl,rfl,⟨_,SqL.of ((Same.refl H4) _ _ e4)⟩,λpa hpa=>?_⟩
  refine q57 (K:=K) (a:=pl) (xs:=(q33 rs n k').map iN) (λi σ H5=>∃ v,σ=[v,some (.ref l),some (.int low)]/\Same H4 H5/\H5 pa=some (.lst ((((q33 rs n k').take i).filter (akB rs low)).map iN))) ⟨none,rfl,Same.new hpa,q01⟩ (λi σ H5 _ ⟨_,_,s5,_⟩=>SqL.of (s5 _ _ ((Same.refl H4) _ _ e4))) ?_ ?_
  ·rintro i y σ H5 hi ⟨v,rfl,s5,e5⟩
   rw [List.getElem?_map] at hi
   cases zi:(q33 rs n k')[i]? with
   | none=>rw [zi] at hi; cases hi
   | some q =>
    rw [zi] at hi
    cases hi
    have qn:=(left_mem.mp (List.mem_of_getElem? zi)).1
    have hl5:SqL K H5 l (rs.map V.str):=(b4.same.trans' ((Same.refl H4).trans' s5)).seq hl
    have no:akB rs low q=false->∃ v,[some (iN q),some (V.ref l),some (V.int low)]=[v,some (.ref l),some (.int low)]/\Same H4 H5/\H5 pa=some (.lst ((((q33 rs n k').take (i + 1)).filter (akB rs low)).map iN)):=λf=>by
     refine ⟨_,rfl,s5,?_⟩
     rw [q82 zi,f]
     simpa using e5
    refine ⟨_,rfl,_,rfl,_,rfl,l,n,rs,low,121,q,110,rfl,hl5,hrs,n12,ln,qn,_,rfl,?_⟩
    cases c1:decide (0 < q29 rs low 121 q 110) with
    | true=>exact q30 (q30 (no (by unfold akB; rw [<- dn,<- dn,c1]; simp)))
    | false =>
     refine q48 ⟨_,rfl,_,rfl,_,rfl,l,n,rs,low,110,q,121,rfl,hl5,hrs,n12,ln,qn,_,rfl,?_⟩
     cases c2:decide (0 < q29 rs low 110 q 121) with
     | true=>exact q30 (no (by unfold akB; rw [<- dn,<- dn,c2]; simp))
     | false =>
      have o:akB rs low q=true:=by unfold akB; rw [<- dn,<- dn,c1,c2]; rfl
      refine q48 ⟨_,rfl,_,e5,?_,_,rfl,Same.grow hpa s5,?_⟩
      ·rw [List.length_map]
       have h1:=List.length_filter_le (akB rs low) ((q33 rs n k').take i)
       rw [List.length_take] at h1
       exact Nat.lt_of_le_of_lt (show _<=12 by omega) (by decide)
      ·rw [q01,q82 zi,o,if_pos rfl,List.map_append]
       rfl
  rintro σ HA ⟨v,rfl,sA,eA⟩
  rw [List.length_map,List.take_length] at eA
  refine ⟨_,rfl,pl,rfl,⟨_,SqL.of (sA _ _ e4)⟩,λpb hpb=>?_⟩
  refine q57 (K:=K) (a:=pl) (xs:=(q33 rs n k').map iN) (λi σ H5=>∃ v,σ=[v,some (.ref l),some (.int low)]/\Same HA H5/\H5 pb=some (.lst ((((q33 rs n k').take i).filter (apB rs low)).map iN))) ⟨none,rfl,Same.new hpb,q01⟩ (λi σ H5 _ ⟨_,_,s5,_⟩=>SqL.of (s5 _ _ (sA _ _ e4))) ?_ ?_
  ·rintro i y σ H5 hi ⟨v,rfl,s5,e5⟩
   rw [List.getElem?_map] at hi
   cases zi:(q33 rs n k')[i]? with
   | none=>rw [zi] at hi; cases hi
   | some q =>
    rw [zi] at hi
    cases hi
    have qn:=(left_mem.mp (List.mem_of_getElem? zi)).1
    have hl5:SqL K H5 l (rs.map V.str):=(b4.same.trans' (sA.trans' s5)).seq hl
    have no:apB rs low q=false->∃ v,[some (iN q),some (V.ref l),some (V.int low)]=[v,some (.ref l),some (.int low)]/\Same HA H5/\H5 pb=some (.lst ((((q33 rs n k').take (i + 1)).filter (apB rs low)).map iN)):=λf=>by
     refine ⟨_,rfl,s5,?_⟩
     rw [q82 zi,f]
     simpa using e5
    refine ⟨_,rfl,_,rfl,_,rfl,l,n,rs,low,121,q,121,rfl,hl5,hrs,n12,ln,qn,_,rfl,?_⟩
    cases c1:decide (0 < q29 rs low 121 q 121) with
    | true=>exact q30 (q30 (no (by unfold apB; rw [<- dn,<- dn,c1]; simp)))
    | false =>
     refine q48 ⟨_,rfl,_,rfl,_,rfl,l,n,rs,low,110,q,110,rfl,hl5,hrs,n12,ln,qn,_,rfl,?_⟩
     cases c2:decide (0 < q29 rs low 110 q 110) with
     | true=>exact q30 (no (by unfold apB; rw [<- dn,<- dn,c2]; simp))
     | false =>
      have o:apB rs low q=true:=by unfold apB; rw [<- dn,<- dn,c1,c2]; rfl
      refine q48 ⟨_,rfl,_,e5,?_,_,rfl,Same.grow hpb s5,?_⟩
      ·rw [List.length_map]
       have h1:=List.length_filter_le (apB rs low) ((q33 rs n k').take i)
       rw [List.length_take] at h1
       exact Nat.lt_of_le_of_lt (show _<=12 by omega) (by decide)
      ·rw [q01,q82 zi,o,if_pos rfl,List.map_append]
       rfl
  rintro σ HB ⟨v,rfl,sB,eB⟩
  rw [List.length_map,List.take_length] at eB
  have eA:=sB _ _ eA
  have b5:=b4.mono (sA.trans' sB)
  have e5:=(sA.trans' sB) _ _ e4
  obtain ⟨bs,ef,bl,_⟩:=b5.at_
  have inA:∀ q,q∈q33 rs n k'->inV (iN q) (((q33 rs n k').filter (akB rs low)).map iN)=akB rs low q:=λq hq=>by
   rw [in_iN,Bool.eq_iff_iff,decide_eq_true_iff,List.mem_filter]
   exact ⟨λh=>h.2,λh=>⟨hq,h⟩⟩
  have inB:∀ q,q∈q33 rs n k'->inV (iN q) (((q33 rs n k').filter (apB rs low)).map iN)=apB rs low q:=λq hq=>by
   rw [in_iN,Bool.eq_iff_iff,decide_eq_true_iff,List.mem_filter]
   exact ⟨λh=>h.2,λh=>⟨hq,h⟩⟩
  refine ⟨_,rfl,.inl ⟨rfl,_,SqL.of ef⟩,?_⟩
  refine ⟨_,rfl,pl,rfl,⟨_,SqL.of e5⟩,λpq hpq=>?_⟩
  refine q57 (K:=K) (a:=pl) (xs:=(q33 rs n k').map iN) (λi σ H6=>∃ v,σ=[v,some (.ref pa),some (.ref pb)]/\Acc HB pq H6 ((((q33 rs n k').take i).filterMap (qg0 rs low)).map skP)) ⟨none,rfl,Same.new hpq,[],q01,.nil⟩ (λi σ H6 _ ⟨_,_,a6⟩=>SqL.of (a6.same _ _ e5)) ?_ ?_
  ·rintro i y σ H6 hi ⟨v,rfl,a6⟩
   rw [List.getElem?_map] at hi
   cases zi:(q33 rs n k')[i]? with
   | none=>rw [zi] at hi; cases hi
   | some q =>
    rw [zi] at hi
    cases hi
    have qL:=List.mem_of_getElem? zi
    have sn:(((q33 rs n k').take (i + 1)).filterMap (qg0 rs low)).map skP=(((q33 rs n k').take i).filterMap (qg0 rs low)).map skP ++ ((qg0 rs low q).toList.map skP):=by
     rw [List.take_add_one,zi,List.filterMap_append,List.map_append]
     congr 1
    have fl:((((q33 rs n k').take i).filterMap (qg0 rs low)).map skP).length<=12:=by
     rw [List.length_map]
     have h1:=List.length_filterMap_le (qg0 rs low) ((q33 rs n k').take i)
     rw [List.length_take] at h1
     omega
    refine ⟨_,rfl,_,rfl,pa,_,rfl,.inl (SqL.of (a6.same _ _ eA)),rfl,qk8 _,_,rfl,?_⟩
    show if inV (iN q) _=true then _ else _
    rw [inA q qL]
    cases c1:akB rs low q with
    | true =>
     have eb:qg0 rs low q=some (q,121):=by unfold qg0 alO; rw [c1]; rfl
     refine q48 (q48 ⟨_,rfl,_,rfl,_,rfl,pa,_,rfl,.inl (SqL.of (a6.same _ _ eA)),rfl,qk8 _,_,rfl,?_⟩)
     show if inV (iN q) _=true then _ else _
     rw [inA q qL,c1]
     refine q48 ⟨q22 (show 2<=100 by decide),λT hT=>?_⟩
     obtain ⟨ys,e1,l1,a7⟩:=a6.put (k:=skP (q,121)) hpq (Same.refl _) hT
     refine ⟨ys,e1,by rw [l1]; exact Nat.lt_of_le_of_lt fl (by decide),_,rfl,?_⟩
     rw [sn,eb]
     exact a7
    | false =>
     refine q30 ⟨_,rfl,_,rfl,pb,_,rfl,.inl (SqL.of (a6.same _ _ eB)),rfl,qk8 _,_,rfl,?_⟩
     show if inV (iN q) _=true then _ else _
     rw [inB q qL]
     cases c2:apB rs low q with
     | true =>
      have eb:qg0 rs low q=some (q,110):=by unfold qg0 alO; rw [c1,c2]; rfl
      refine q48 ⟨_,rfl,_,rfl,_,rfl,pa,_,rfl,.inl (SqL.of (a6.same _ _ eA)),rfl,qk8 _,_,rfl,?_⟩
      show if inV (iN q) _=true then _ else _
      rw [inA q qL,c1]
      refine q30 ⟨q22 (show 2<=100 by decide),λT hT=>?_⟩
      obtain ⟨ys,e1,l1,a7⟩:=a6.put (k:=skP (q,110)) hpq (Same.refl _) hT
      refine ⟨ys,e1,by rw [l1]; exact Nat.lt_of_le_of_lt fl (by decide),_,rfl,?_⟩
      rw [sn,eb]
      exact a7
     | false =>
      have eb:qg0 rs low q=none:=by unfold qg0 alO; rw [c1,c2]; rfl
      refine q30 ⟨_,rfl,?_⟩
      rw [sn,eb]
      simpa using a6
  rintro σ H6 ⟨v,rfl,a6⟩
  rw [List.length_map,List.take_length,lm] at a6
  obtain ⟨bs',ef',bl',b7⟩:=b5.put hpq a6
  refine ⟨pf,_,_,rfl,rfl,ef',?_,?_⟩
  ·rw [List.length_map,bl',List.length_map]
   have:=qd2 rs k'
   exact Nat.lt_of_le_of_lt (show _<=12 by omega) (by decide)
  have keep:∀{b:Addr} {xs:List V},b≠pf->HB b=some (.lst xs)->upd H6 pf (.lst (bs'.map V.ref ++ [.ref pq])) b=some (.lst xs):=λnb e=>by rw [q07 nb]; exact a6.same _ _ e
  have npa:pa≠pf:=λe=>by
   obtain ⟨_,e',_⟩:=b4.at_
   rw [e,e'] at hpa
   cases hpa
  have npb:pb≠pf:=λe=>by
   obtain ⟨_,e',_⟩:=(b4.mono sA).at_
   rw [e,e'] at hpb
   cases hpb
  have e7:=keep npf e5
  have A7:=keep npa eA
  have B7:=keep npb eB
  have f7:∃ ys,upd H6 pf (.lst (bs'.map V.ref ++ [.ref pq])) pf=some (.lst ys):=⟨_,q01⟩
  generalize upd H6 pf (.lst (bs'.map V.ref ++ [.ref pq]))=H7 at *
  refine ⟨_,rfl,pl,rfl,⟨_,SqL.of e7⟩,λpn hpn=>?_⟩
  refine q57 (K:=K) (a:=pl) (xs:=(q33 rs n k').map iN) (λi σ H8=>∃ v,σ=[v,some (.ref pa),some (.ref pb)]/\Same H7 H8/\H8 pn=some (.lst ((((q33 rs n k').take i).filter λq=>!akB rs low q && !apB rs low q).map iN))) ⟨none,rfl,Same.new hpn,q01⟩ (λi σ H8 _ ⟨_,_,s8,_⟩=>SqL.of (s8 _ _ e7)) ?_ ?_
  ·rintro i y σ H8 hi ⟨v,rfl,s8,e8⟩
   rw [List.getElem?_map] at hi
   cases zi:(q33 rs n k')[i]? with
   | none=>rw [zi] at hi; cases hi
   | some q =>
    rw [zi] at hi
    cases hi
    have qL:=List.mem_of_getElem? zi
    have no:(!akB rs low q && !apB rs low q)=false->∃ v,[some (iN q),some (V.ref pa),some (V.ref pb)]=[v,some (.ref pa),some (.ref pb)]/\Same H7 H8/\H8 pn=some (.lst ((((q33 rs n k').take (i + 1)).filter λq=>!akB rs low q && !apB rs low q).map iN)):=λf=>by
     refine ⟨_,rfl,s8,?_⟩
     rw [q82 zi,f]
     simpa using e8
    refine ⟨_,rfl,_,rfl,pa,_,rfl,.inl (SqL.of (s8 _ _ A7)),rfl,qk8 _,_,rfl,?_⟩
    show if (!inV (iN q) _)=true then _ else _
    rw [inA q qL]
    cases c1:akB rs low q with
    | true=>exact q30 (q30 (no (by rw [c1]; rfl)))
    | false =>
     refine q48 ⟨_,rfl,_,rfl,pb,_,rfl,.inl (SqL.of (s8 _ _ B7)),rfl,qk8 _,_,rfl,?_⟩
     show if (!inV (iN q) _)=true then _ else _
     rw [inB q qL]
     cases c2:apB rs low q with
     | true=>exact q30 (no (by rw [c1,c2]; rfl))
     | false =>
      refine q48 ⟨_,rfl,_,e8,?_,_,rfl,Same.grow hpn s8,?_⟩
      ·rw [List.length_map]
       have h1:=List.length_filter_le (λq=>!akB rs low q && !apB rs low q) ((q33 rs n k').take i)
       rw [List.length_take] at h1
       exact Nat.lt_of_le_of_lt (show _<=12 by omega) (by decide)
      ·rw [q01,q82 zi,c1,c2,List.map_append]
       rfl
  rintro σ H8 ⟨v,rfl,s8,e8⟩
  rw [List.length_map,List.take_length,lf] at e8
  refine ⟨pn,_,_,_,rfl,λe=>?_,?_,e8⟩
  ·obtain ⟨ys,e'⟩:=f7
   rw [e,e'] at hpn
   cases hpn
  ·rw [ls,List.map_append]
   exact b7.mono s8
def fv (rs:List Str)(q r:Nat):List Bool:=[decide (0 < q29 rs q 121 r 121),decide (0 < q29 rs q 121 r 110),decide (0 < q29 rs q 110 r 121),decide (0 < q29 rs q 110 r 110)]
theorem fv_all (rs:List Str)(q r:Nat):(fv rs q r).all id=crB rs q r:=by
 unfold fv crB cr4
 cases decide (0 < q29 rs q 121 r 121) <;> cases decide (0 < q29 rs q 121 r 110) <;> cases decide (0 < q29 rs q 110 r 121) <;> cases decide (0 < q29 rs q 110 r 110) <;> rfl
def asgE:List Stmt->Expr
 | .Assign _ e _ :: _=>e
 | _=>.Constant .none 0 ⟨0,0,0,0⟩
def sndS:List Stmt->Stmt
 | _ :: s :: _=>s
 | _=>.Pass ⟨0,0,0,0⟩
@[irreducible] def e_t0:Expr:=(lstE (asgE (q08 q51))).getD 0 (.Constant .none 0 ⟨0,0,0,0⟩)
@[irreducible] def e_t1:Expr:=(lstE (asgE (q08 q51))).getD 1 (.Constant .none 0 ⟨0,0,0,0⟩)
@[irreducible] def e_t2:Expr:=(lstE (asgE (q08 q51))).getD 2 (.Constant .none 0 ⟨0,0,0,0⟩)
@[irreducible] def e_t3:Expr:=(lstE (asgE (q08 q51))).getD 3 (.Constant .none 0 ⟨0,0,0,0⟩)
abbrev st_lc:Stmt:=sndS (q08 q51)
theorem lc_body:∃ p1 p2 p3,q08 q51=[.Assign [.Name "_law_four" p1] (.List [e_t0,e_t1,e_t2,e_t3] p2) p3,st_lc]:=⟨_,_,_,by delta e_t0 e_t1 e_t2 e_t3; rfl⟩
theorem t0_eq:∃ p1 p2 p3,e_t0=.Tuple [.Constant (.str "y") 0 p1,.Constant (.str "y") 0 p2] 0 p3:=⟨_,_,_,by delta e_t0; rfl⟩
theorem t1_eq:∃ p1 p2 p3,e_t1=.Tuple [.Constant (.str "y") 0 p1,.Constant (.str "n") 0 p2] 0 p3:=⟨_,_,_,by delta e_t1; rfl⟩
theorem t2_eq:∃ p1 p2 p3,e_t2=.Tuple [.Constant (.str "n") 0 p1,.Constant (.str "y") 0 p2] 0 p3:=⟨_,_,_,by delta e_t2; rfl⟩
theorem t3_eq:∃ p1 p2 p3,e_t3=.Tuple [.Constant (.str "n") 0 p1,.Constant (.str "n") 0 p2] 0 p3:=⟨_,_,_,by delta e_t3; rfl⟩
theorem qv3 {X:Cx}{e:Expr}{es:List Expr}{t:TA}{x y:Str}(h:∃ p1 p2 p3,e=.Tuple [.Constant (.str x) 0 p1,.Constant (.str y) 0 p2] 0 p3)(r:PA X es t):PA X (e :: es) (qh4 (tTup (qh4 (tC (.str x)) (qh4 (tC (.str y)) qX6))) t):=by
 obtain ⟨p1,p2,p3,rfl⟩:=h
 exact q00 (q54 (q00 q15 (q00 q15 q03))) r
def qt9 (K:PySem.W.Frag):Sp:=λvs H Q _=>∃(l:Addr) (n:Nat) (rs:List Str) (q r:Nat),vs=[.ref l,.int q,.int r]/\SqL K H l (rs.map V.str)/\(∀ x∈rs,Row n x)/\n<=12/\q < n/\r < n/\∀ H',Same H H'->Q (.bl (crB rs q r)) H'
abbrev N_lc:List Str:=["_law_rows_here", "_law_q", "_law_r", "_law_four"]
abbrev P_lc:List Str:=["_law_rows_here", "_law_q", "_law_r"]
theorem sc_lc:FnScope N_lc P_lc (q02 q51):=⟨rfl,rfl,rfl,by decide +kernel,rfl,by decide +kernel,by decide +kernel⟩
abbrev N_lc1:List Str:=["_law_a", "_law_b", "_law_rows_here", "_law_q", "_law_r"]
theorem z84:N_lc1.Nodup:=by decide +kernel
theorem qz8 {f fb:Addr}{fd gb:FuncData}(D:Df K mg "_law_cross" q51 P_lc f fd) (Db:Df K mg "_law_bears" qc9 Pbe fb gb) (B:Bt mg):FnOk P w K mg base (CXE P w) 2 f fd P_lc (qt9 K):=by
 refine D.F.okN sc_lc (λvs H Q E h=>?_) (λcdv A outer s H vs Q E hr h=>?_)
 ·obtain ⟨l,n,rs,q,r,rfl,_⟩:=h
  rfl
 ·obtain ⟨l,n,rs,q,r,rfl,hl,hrs,n12,hq,hr',k⟩:=h
  obtain ⟨q1,q2,q3,eb⟩:=lc_body
  rw [eb]
  refine ⟨_,q04 (q18 (i:=3) sc_lc.nd rfl (Or.inl rfl) (q42 (qv3 t0_eq (qv3 t1_eq (qv3 t2_eq (qv3 t3_eq q03))))))
   (q05 (q13 (q12 (q90 rfl) (by rfl) B.all (by rfl) (q00 (q38 (g:=(qM3 K 2 (qa1 (q81 0) (qa1 (q81 1) qM4)))) (N':=N_lc1) (fm:=[none,none,some 0,some 1,some 2]) rfl ⟨rfl,by decide +kernel,by decide +kernel,rfl,rfl,rfl⟩ (q27 (pv 3)) (λ_ _ _ _=>(q64 rfl (q17 (q09 (i:=0) z84 rfl (Or.inl rfl)) (q17 (q09 (i:=1) z84 rfl (Or.inl rfl)) q44)))) (λ_ _ _ _=>q35) (λ_ _ _ _=>(q23 Db (qa8 Db) (hr.mono (by decide)) q19 (q00 (pv 2) (q00 (pv 3) (q00 (pv 0) (q00 (pv 4) (q00 (pv 1) q03)))))))) q03)))),?_⟩
  refine ⟨q22 (show 2<=100 by decide),λT1 hT1=>⟨q22 (show 2<=100 by decide),λT2 hT2=>⟨q22 (show 2<=100 by decide),λT3 hT3=>⟨q22 (show 2<=100 by decide),λT4 hT4=>⟨q22 (show 4<=100 by decide),λg hg=>?_⟩⟩⟩⟩⟩
  have s1':=Same.new (o:=.tup [.str "y",.str "y"]) hT1
  have s2:=Same.new (o:=.tup [.str "y",.str "n"]) hT2
  have s3:=Same.new (o:=.tup [.str "n",.str "y"]) hT3
  have s4:=Same.new (o:=.tup [.str "n",.str "n"]) hT4
  have s5:=Same.new (o:=.lst [.ref T1,.ref T2,.ref T3,.ref T4]) hg
  have e1:=(s2.trans' (s3.trans' (s4.trans' s5))) _ _ q01
  have e2:=(s3.trans' (s4.trans' s5)) _ _ q01
  have e3:=(s4.trans' s5) _ _ q01
  have e4:=s5 _ _ q01
  have e5:upd (upd (upd (upd (upd H T1 (.tup [.str "y",.str "y"])) T2 (.tup [.str "y",.str "n"])) T3 (.tup [.str "n",.str "y"])) T4 (.tup [.str "n",.str "n"])) g (.lst [.ref T1,.ref T2,.ref T3,.ref T4]) g=some (.lst [.ref T1,.ref T2,.ref T3,.ref T4]):=q01
  have s05:=s1'.trans' (s2.trans' (s3.trans' (s4.trans' s5)))
  generalize upd (upd (upd (upd (upd H T1 (.tup [.str "y",.str "y"])) T2 (.tup [.str "y",.str "n"])) T3 (.tup [.str "n",.str "y"])) T4 (.tup [.str "n",.str "n"])) g (.lst [.ref T1,.ref T2,.ref T3,.ref T4])=H5 at *
  refine ⟨_,rfl,g,rfl,⟨_,SqL.of e5⟩,λp hp=>?_⟩
  have step:∀{H2:Hp} {i:Nat} {b:Bool},Same H5 H2->H2 p=some (.lst (((fv rs q r).take i).map V.bl))->i < 4->(fv rs q r)[i]? = some b ->
    ∃ ys,H2 p=some (.lst ys)/\ys.length < sizeLine/\Same H5 (upd H2 p (.lst (ys ++ [V.bl b])))/\upd H2 p (.lst (ys ++ [V.bl b])) p=some (.lst (((fv rs q r).take (i + 1)).map V.bl)):=by
   intro H2 i b s2 e2 hi z
   refine ⟨_,e2,?_,Same.grow hp s2,?_⟩
   ·rw [List.length_map,List.length_take]
    exact Nat.lt_of_le_of_lt (show _<=4 by omega) (by decide)
   ·rw [q01,List.take_add_one,z,List.map_append]
    rfl
  refine q57 (K:=K) (a:=g) (xs:=[.ref T1,.ref T2,.ref T3,.ref T4]) (λi σ H2=>∃ v0 v1,σ=[v0,v1,some (.ref l),some (.int q),some (.int r)]/\Same H5 H2/\H2 p=some (.lst (((fv rs q r).take i).map V.bl))) ⟨none,none,rfl,Same.new hp,q01⟩ (λi σ H2 _ ⟨_,_,_,s2,_⟩=>SqL.of (s2 _ _ e5)) ?_ ?_
  ·rintro i y σ H2 hi ⟨v0,v1,rfl,s2,e2'⟩
   have hl2:SqL K H2 l (rs.map V.str):=(s05.trans' s2).seq hl
   have i4:i < 4:=(List.getElem?_eq_some_iff.mp hi).1
   have i4':i=0∨i=1∨i=2∨i=3:=by omega
   rcases i4' with rfl | rfl | rfl | rfl
   ·cases hi
    refine qe1 (s2 _ _ e1) ⟨_,rfl,_,rfl,_,rfl,_,rfl,_,rfl,l,n,rs,q,121,r,121,rfl,hl2,hrs,n12,hq,hr',?_⟩
    obtain ⟨ys,y1,y2,y3,y4⟩:=step s2 e2' (by decide) rfl
    exact ⟨ys,y1,y2,_,_,rfl,y3,y4⟩
   ·cases hi
    refine qe1 (s2 _ _ e2) ⟨_,rfl,_,rfl,_,rfl,_,rfl,_,rfl,l,n,rs,q,121,r,110,rfl,hl2,hrs,n12,hq,hr',?_⟩
    obtain ⟨ys,y1,y2,y3,y4⟩:=step s2 e2' (by decide) rfl
    exact ⟨ys,y1,y2,_,_,rfl,y3,y4⟩
   ·cases hi
    refine qe1 (s2 _ _ e3) ⟨_,rfl,_,rfl,_,rfl,_,rfl,_,rfl,l,n,rs,q,110,r,121,rfl,hl2,hrs,n12,hq,hr',?_⟩
    obtain ⟨ys,y1,y2,y3,y4⟩:=step s2 e2' (by decide) rfl
    exact ⟨ys,y1,y2,_,_,rfl,y3,y4⟩
   ·cases hi
    refine qe1 (s2 _ _ e4) ⟨_,rfl,_,rfl,_,rfl,_,rfl,_,rfl,l,n,rs,q,110,r,110,rfl,hl2,hrs,n12,hq,hr',?_⟩
    obtain ⟨ys,y1,y2,y3,y4⟩:=step s2 e2' (by decide) rfl
    exact ⟨ys,y1,y2,_,_,rfl,y3,y4⟩
  ·rintro σ H2 ⟨v0,v1,rfl,s2,e2'⟩
   refine ⟨p,_,rfl,SqL.of e2',?_⟩
   show Q (.bl ((fv rs q r).all id)) H2
   rw [fv_all]
   exact k H2 (s05.trans' s2)
end
def qt6 (qs:List Nat)(x:Str)(i:Nat):Nat:=if i∈qs then qv8 (ch x i) else ch x i
def q89 (n:Nat)(qs:List Nat)(x:Str):Str:=tx n (qt6 qs x)
theorem qR7 {c:Nat}(h:c=121∨c=110):qv8 c=121∨qv8 c=110:=by
 rcases h with rfl | rfl
 ·exact .inr rfl
 ·exact .inl rfl
theorem qE4 {n:Nat}{qs:List Nat}{x:Str}(h:Row n x):Row n (q89 n qs x):=by
 refine ⟨ql4 _ _,λi hi=>?_⟩
 unfold q89
 rw [qb8 hi]
 unfold qt6
 split
 ·exact qR7 (h.bin i hi)
 ·exact h.bin i hi
section
variable {P:Program}{w:World}{K:PySem.W.Frag}{mg:Str->Option Value}{base:Heap}{C fi fa ft fy fm fc:Addr}{gi ga gt gy gm gc:FuncData}{W BC BS fW fC fS:Addr}{gW gC gS:FuncData}
end
section
variable {P:Program}{w:World}{K:PySem.W.Frag}{mg:Str->Option Value}{base:Heap}{C fi fa ft fy fm fc:Addr}{gi ga gt gy gm gc:FuncData}
theorem app_len (x y:Str):(x ++ y).length=x.length + y.length:=by
 show (x.cps ++ y.cps).size=_
 rw [Array.size_append]
 rfl
end
abbrev q94:Stmt:=top 67
theorem qW6 (rs:List Str)(n l:Nat):((bun rs n l).map (·.1)).Nodup:=by
 have e:(bun rs n l).map (·.1)=(List.range n).filter λr=>(alO rs l r).isSome:=by
  unfold bun
  rw [List.map_filterMap]
  rw [<- List.filterMap_eq_filter]
  refine qk7 λr _=>?_
  unfold qg0
  cases z:alO rs l r <;> simp [Option.guard,z]
 rw [e]
 exact List.Nodup.sublist List.filter_sublist List.nodup_range
theorem qK3 {l:List Nat}{i q:Nat}(nd:l.Nodup)(h:l[i]? = some q):q∉l.take i:=λw=>by
 obtain ⟨j,hj⟩:=List.getElem?_of_mem w
 rw [List.getElem?_take] at hj
 split at hj
 ·rename_i ji
  have e:=(List.getElem?_inj (List.getElem?_eq_some_iff.mp hj).1 nd).mp (hj.trans h.symm)
  omega
 ·cases hj
def BunsAt (H:Hp)(p:Addr)(bl:List (List (Nat×Nat))):Prop:=∃ bs:List Addr,H p=some (.lst (bs.map V.ref))/\bs.length=bl.length/\∀(i:Nat) (b:Addr) (ks:List (Nat×Nat)),bs[i]? = some b->bl[i]? = some ks->∃ as:List Addr,H b=some (.lst (as.map V.ref))/\Tups H as (ks.map skP)
theorem Buns.now {H0 H:Hp}{p:Addr}{bl:List (List (Nat×Nat))}(B:Buns H0 p H bl):BunsAt H p bl:=by
 obtain ⟨bs,e,l,_,g⟩:=B.at_
 exact ⟨bs,e,l,g⟩
theorem BunsAt.mono {H H':Hp}{p:Addr}{bl:List (List (Nat×Nat))}(B:BunsAt H p bl)(s:Same H H'):BunsAt H' p bl:=by
 obtain ⟨bs,e,l,g⟩:=B
 exact ⟨bs,s _ _ e,l,λi b ks h1 h2=>let ⟨as,e1,t1⟩:=g i b ks h1 h2; ⟨as,s _ _ e1,t1.mono s⟩⟩
theorem BunsAt.monoP {H H':Hp}{Pt p:Addr}{bl:List (List (Nat×Nat))}(T:TabOk H Pt qL)(B:BunsAt H p bl)(s:SameP Pt H H'):BunsAt H' p bl:=by
 obtain ⟨bs,e,l,g⟩:=B
 exact ⟨bs,qq1 T s e (λps z=>by cases z),l,λi b ks h1 h2=>let ⟨as,e1,t1⟩:=g i b ks h1 h2; ⟨as,qq1 T s e1 (λps z=>by cases z),t1.1,λi r k a b=>qq1 T s (t1.2 i r k a b) (λps z=>by cases z)⟩⟩
section
variable {P:Program}{w:World}{K:PySem.W.Frag}{mg:Str->Option Value}{base:Heap}
def qy4 (K:PySem.W.Frag):Sp:=λvs H Q _=>∃(b:Addr) (as:List Addr) (n:Nat) (ks:List (Nat×Nat)) (x:Str),vs=[.str x,.ref b]/\Row n x/\n<=12/\SqL K H b (as.map V.ref)/\Tups H as (ks.map skP)/\(ks.map (·.1)).Nodup/\(∀ p∈ks,p.1 < n)/\Q (.str (q89 n (ks.map (·.1)) x)) H
abbrev N_lt:List Str:=["_law_row", "_law_bundle", "_law_q", "_law_sign"]
abbrev P_lt:List Str:=["_law_row", "_law_bundle"]
theorem sc_lt:FnScope N_lt P_lt (q02 q94):=⟨rfl,rfl,rfl,by decide +kernel,rfl,by decide +kernel,by decide +kernel⟩
theorem qK1 {f fn:Addr}{fd gn:FuncData}(D:Df K mg "_law_turned" q94 P_lt f fd) (Dn:Df K mg "_law_not" qz0 ["_law_sign"] fn gn) (B:Bt mg):FnOk P w K mg base (CXE P w) 2 f fd P_lt (qy4 K):=by
 refine D.F.okN sc_lt (λvs H Q E h=>?_) (λcdv A outer s H vs Q E hr h=>?_)
 ·obtain ⟨b,as,n,ks,x,rfl,_⟩:=h
  rfl
 ·obtain ⟨b,as,n,ks,x,rfl,hx,n12,hb,ta,nd,lt,k⟩:=h
  refine ⟨_,q04 (q36 PassesOwn.never rfl (q27 (pv 1)) (q64 rfl (q17 (q09 (i:=2) sc_lt.nd rfl (Or.inl rfl)) (q17 (q09 (i:=3) sc_lt.nd rfl (Or.inl rfl)) q44)))
   (q05 (q18 (i:=0) sc_lt.nd rfl (Or.inl rfl) (q24 q77 (q24 q77 (q56 qu1 (pv 0) q76 (q75 (pv 2))) (q23 Dn (z83 Dn B) (hr.mono (by decide)) q19 (q00 (q25 qd9 (pv 0) (pv 2) (λ_ _=>rfl)) q03))) (q56 qu1 (pv 0) (q75 (q24 q46 (pv 2) q06)) q76)))))
   (q05 (q13 (pv 0))),?_⟩
  have la:as.length=ks.length:=by rw [ta.1,List.length_map]
  refine ⟨_,rfl,b,rfl,⟨_,hb⟩,q62 (K:=K) (a:=b) (xs:=as.map V.ref) (λi σ H2=>∃ v2 v3,σ=[some (.str (q89 n ((ks.take i).map (·.1)) x)),some (.ref b),v2,v3]/\H2=H) ⟨none,none,?_,rfl⟩ (λi σ H2 _ ⟨_,_,_,e⟩=>by rw [e]; exact hb) ?_ ?_⟩
  ·have e:q89 n ((ks.take 0).map (·.1)) x=x:=by
    show tx n (qt6 [] x)=x
    refine ((z76 hx.len).trans (qt5 λi hi=>?_)).symm
    unfold qt6
    rw [if_neg (by simp)]
   rw [e]
   rfl
  ·rintro i y σ H2 hi ⟨v2,v3,rfl,rfl⟩
   obtain ⟨r1,k1,rfl,ek,er⟩:=ta.item hi
   rw [List.getElem?_map] at ek
   cases zi:ks[i]? with
   | none=>rw [zi] at ek; cases ek
   | some pr =>
    rw [zi] at ek
    cases ek
    obtain ⟨q,a⟩:=pr
    have hq:q < n:=lt (q,a) (List.mem_of_getElem? zi)
    have rt:Row n (q89 n ((ks.take i).map (·.1)) x):=qE4 hx
    have sz:(q89 n ((ks.take i).map (·.1)) x).length<=sizeLine:=by rw [rt.len]; exact q22 (by omega)
    have l1:=Txt.slice_le (q89 n ((ks.take i).map (·.1)) x) none (some (q:Int))
    have l2:=Txt.slice_le (q89 n ((ks.take i).map (·.1)) x) (some ((q:Int) + 1)) none
    have ni:q∉(ks.take i).map (·.1):=by
     rw [List.map_take]
     exact qK3 nd (by rw [List.getElem?_map,zi]; rfl)
    refine ⟨r1,_,rfl,SqT.of er,rfl,_,_,rfl,_,_,rfl,rfl,?_⟩
    refine ⟨_,rfl,_,rfl,_,rfl,_,rfl,sz,_,rfl,_,rfl,_,_,_,rfl,rfl,sz,qW2 rt hq,ch (q89 n ((ks.take i).map (·.1)) x) q,rfl,_,_,rfl,rfl,?_,_,rfl,_,rfl,_,_,rfl,rfl,_,rfl,_,rfl,sz,_,_,rfl,rfl,?_,?_⟩
    ·show (Txt.slice (q89 n ((ks.take i).map (·.1)) x) none (some (q:Int))).length + 1<=sizeLine
     rw [rt.len] at l1
     rw [sizeLine_eq]; omega
    ·show (Txt.slice (q89 n ((ks.take i).map (·.1)) x) none (some (q:Int)) ++ (⟨#[_]⟩:Str)).length + (Txt.slice (q89 n ((ks.take i).map (·.1)) x) (some ((q:Int) + 1)) none).length<=sizeLine
     rw [app_len]
     show (Txt.slice (q89 n ((ks.take i).map (·.1)) x) none (some (q:Int))).length + 1 + _<=sizeLine
     rw [rt.len] at l1 l2
     rw [sizeLine_eq]; omega
    ·refine ⟨some (.int q),some (s1 a),?_,rfl⟩
     have e:=qM6 (a:=qv8 (ch (q89 n ((ks.take i).map (·.1)) x) q)) rt.len hq
     have e2:tx n (qu2 (q89 n ((ks.take i).map (·.1)) x) q (qv8 (ch (q89 n ((ks.take i).map (·.1)) x) q)))=q89 n ((ks.take (i + 1)).map (·.1)) x:=by
      unfold q89
      refine qt5 λj hj=>?_
      unfold qu2
      rw [List.take_add_one,zi,List.map_append]
      show _=qt6 (_ ++ [q]) x j
      by_cases c:j=q
      ·rw [if_pos c,qb8 hq,c]
       unfold qt6
       rw [if_neg ni,if_pos (by simp)]
      ·rw [if_neg c,qb8 hj]
       unfold qt6
       by_cases m:j∈(ks.take i).map (·.1)
       ·rw [if_pos m,if_pos (List.mem_append_left _ m)]
       ·rw [if_neg m,if_neg (λw=>by
         rcases List.mem_append.mp w with w | w
         ·exact m w
         ·exact c (List.mem_singleton.mp w))]
     rw [<- e2,<- e]
     rfl
  ·rintro σ H2 ⟨v2,v3,rfl,rfl⟩
   rw [List.length_map,la,List.take_length]
   exact ⟨_,rfl,k⟩
end
end K19
namespace K19
open PySem L2
abbrev Sgn (a:Nat):Prop:=a=121∨a=110
def Cr (rs:List Str)(q r:Nat):Prop:=∀ a b,Sgn a->Sgn b->0 < q29 rs q a r b
theorem crB_iff {rs:List Str}{q r:Nat}:crB rs q r=true↔Cr rs q r:=by
 unfold crB cr4 Cr
 simp only [List.all_cons,List.all_nil,Bool.and_eq_true,id,decide_eq_true_eq,Bool.and_true]
 constructor
 ·rintro ⟨h1,h2,h3,h4⟩ a b (rfl | rfl) (rfl | rfl) <;> assumption
 ·intro h
  exact ⟨h _ _ (.inr rfl) (.inr rfl),h _ _ (.inr rfl) (.inl rfl),h _ _ (.inl rfl) (.inr rfl),h _ _ (.inl rfl) (.inl rfl)⟩
theorem Cr.symm {rs:List Str}{q r:Nat}(h:Cr rs q r):Cr rs r q:=λa b ha hb=>by rw [qa2]; exact h b a hb ha
def q84 (rs:List Str)(q r s:Nat):Bool:=decide (0 < q29 rs q 110 r s) && decide (0 < q29 rs q 121 r s)
theorem both_iff {rs:List Str}{q r s:Nat}:q84 rs q r s=true↔∀ a,Sgn a->0 < q29 rs q a r s:=by
 unfold q84
 rw [Bool.and_eq_true,decide_eq_true_iff,decide_eq_true_iff]
 constructor
 ·rintro ⟨h1,h2⟩ a (rfl | rfl) <;> assumption
 ·intro h; exact ⟨h _ (.inr rfl),h _ (.inl rfl)⟩
theorem qx0 {rs:List Str}{q r s:Nat}(h:q84 rs q r s=false):∃ a,Sgn a/\q29 rs q a r s=0:=by
 unfold q84 at h
 rw [Bool.and_eq_false_iff,decide_eq_false_iff_not,decide_eq_false_iff_not] at h
 rcases h with h | h
 ·exact ⟨110,.inr rfl,by omega⟩
 ·exact ⟨121,.inl rfl,by omega⟩
def awC (rs:List Str)(q r:Nat):Nat:=if q84 rs q r 110=true then (if q84 rs q r 121=true then 45 else 110) else (if q84 rs q r 121=true then 121 else 45)
def lvT (rs:List Str)(n q:Nat):Str:=tx n (awC rs q)
theorem aw_sgn (rs:List Str)(q r:Nat):awC rs q r=121∨awC rs q r=110∨awC rs q r=45:=by
 unfold awC
 split <;> split <;> simp
theorem lv_pat (rs:List Str)(n q:Nat):Pat n (lvT rs n q):=⟨ql4 _ _,λi hi=>by unfold lvT; rw [qb8 hi]; exact aw_sgn rs q i⟩
section
variable {rs:List Str}{n:Nat}(hrs:∀ x∈rs,Row n x)
include hrs
theorem qr0 {q r:Nat}(hr:r < n)(h:¬ awC rs q r=45):Sgn (awC rs q r)/\(∀ a,Sgn a->0 < q29 rs q a r (awC rs q r))/\∃ a,Sgn a/\∀ x∈rs,ch x q=a->ch x r=awC rs q r:=by
 have go:∀ s s',Sgn s->(∀ c,Sgn c->¬ c=s'->c=s)->q84 rs q r s=true->q84 rs q r s'=false->Sgn s/\(∀ a,Sgn a->0 < q29 rs q a r s)/\∃ a,Sgn a/\∀ x∈rs,ch x q=a->ch x r=s:=λs s' hs ne b b'=>by
  obtain ⟨a,ha,z⟩:=qx0 b'
  exact ⟨hs,both_iff.mp b,a,ha,λx hx e=>ne _ ((hrs x hx).bin r hr) λw=>cnt_zero.mp z x hx ⟨e,w⟩⟩
 unfold awC at h ⊢
 cases b1:q84 rs q r 110 <;> cases b2:q84 rs q r 121 <;> simp only [b1,b2] at h ⊢
 ·exact absurd rfl h
 ·exact go 121 110 (.inl rfl) (λc hc w=>hc.resolve_right w) b2 b1
 ·exact go 110 121 (.inr rfl) (λc hc w=>hc.resolve_left w) b1 b2
 ·exact absurd rfl h
theorem aw_dash {q r:Nat}(hq:q < n)(hr:r < n)(ho:opB rs q=true)(h:awC rs q r=45):Cr rs q r∨tgB rs q r=true:=by
 unfold awC at h
 cases b1:q84 rs q r 110 <;> cases b2:q84 rs q r 121 <;> simp only [b1,b2] at h
 ·obtain ⟨a,ha,za⟩:=qx0 b1
  obtain ⟨b,hb,zb⟩:=qx0 b2
  obtain ⟨⟨y,hy,ey⟩,⟨z,hz,ez⟩⟩:=op_iff.mp ho
  refine .inr ((qf6 hrs hq hr).mpr ?_)
  have na:∀ x∈rs,ch x q=a->ch x r=121:=λx hx e=>((hrs x hx).bin r hr).resolve_right λw=>cnt_zero.mp za x hx ⟨e,w⟩
  have nb:∀ x∈rs,ch x q=b->ch x r=110:=λx hx e=>((hrs x hx).bin r hr).resolve_left λw=>cnt_zero.mp zb x hx ⟨e,w⟩
  rcases ha with rfl | rfl <;> rcases hb with rfl | rfl
  ·exact absurd ((na z hz ez).symm.trans (nb z hz ez)) (by decide)
  ·refine .inl λx hx=>?_
   rcases (hrs x hx).bin q hq with e | e
   ·rw [na x hx e,e]
   ·rw [nb x hx e,e]
  ·refine .inr λx hx w=>?_
   rcases (hrs x hx).bin q hq with e | e
   ·have:=nb x hx e; omega
   ·have:=na x hx e; omega
  ·exact absurd ((na y hy ey).symm.trans (nb y hy ey)) (by decide)
 ·exact absurd h (by decide)
 ·exact absurd h (by decide)
 ·refine .inl λa b ha hb=>?_
  rcases hb with rfl | rfl
  ·exact both_iff.mp b2 a ha
  ·exact both_iff.mp b1 a ha
theorem qS4 {q:Nat}(hq:q < n)(ho:opB rs q=true):qb9 rs n (lvT rs n q):=by
 intro r1 r2 h1 h2 n1 n2
 unfold lvT at n1 n2 ⊢
 rw [qb8 h1] at n1 ⊢
 rw [qb8 h2] at n2 ⊢
 obtain ⟨_,w1,a,ha,c1⟩:=qr0 hrs h1 n1
 obtain ⟨_,w2,b,hb,c2⟩:=qr0 hrs h2 n2
 by_cases e:a=b
 ·subst e
  obtain ⟨x,hx,x1,x2⟩:=cnt_pos.mp (w1 a ha)
  exact cnt_pos.mpr ⟨x,hx,x2,c2 x hx x1⟩
 ·obtain ⟨x,hx,x1,x2⟩:=cnt_pos.mp (w1 b hb)
  exact cnt_pos.mpr ⟨x,hx,x2,c2 x hx x1⟩
theorem lv_meet {q p:Nat}(h:Cr rs q p):¬ Clash rs n (lvT rs n q) (lvT rs n p):=by
 rintro ⟨r1,r2,h1,h2,n1,n2,z⟩
 unfold lvT at n1 n2 z
 rw [qb8 h1] at n1 z
 rw [qb8 h2] at n2 z
 obtain ⟨_,_,a,ha,c1⟩:=qr0 hrs h1 n1
 obtain ⟨_,_,b,hb,c2⟩:=qr0 hrs h2 n2
 obtain ⟨x,hx,x1,x2⟩:=cnt_pos.mp (h a b ha hb)
 exact cnt_zero.mp z x hx ⟨c1 x hx x1,c2 x hx x2⟩
end
structure Free (rs:List Str) (n:Nat) (qs:List Nat) (x:Str):Prop where
 row:Row n x
 bor:qX5 rs n x
 fre:∀ q∈qs,∀ r,r < n->tgB rs q r=false->∀ a,Sgn a->0 < q29 rs q a r (ch x r)
theorem in_bunq {rs:List Str}{n q r:Nat}:r∈(bun rs n q).map (·.1)↔r < n/\tgB rs q r=true:=by
 constructor
 ·intro h
  obtain ⟨p,hp,rfl⟩:=List.mem_map.mp h
  obtain ⟨r,a⟩:=p
  obtain ⟨h1,h2⟩:=qD8 hp
  refine ⟨h1,?_⟩
  cases z:tgB rs q r with
  | true=>rfl
  | false=>rw [alO_none.mpr z] at h2; cases h2
 ·rintro ⟨h1,h2⟩
  cases z:alO rs q r with
  | none=>rw [alO_none.mp z] at h2; cases h2
  | some a=>exact List.mem_map.mpr ⟨(r,a),qS2 h1 z,rfl⟩
theorem qn4 {c:Nat}(h:Sgn c):Sgn (qv8 c):=qR7 h
theorem qC2 {c d:Nat}(hc:Sgn c)(hd:Sgn d)(h:¬ c=d):d=qv8 c:=by
 rcases hc with rfl | rfl <;> rcases hd with rfl | rfl
 ·exact absurd rfl h
 ·rfl
 ·rfl
 ·exact absurd rfl h
theorem notM_ne {c:Nat}(hc:Sgn c):¬ qv8 c=c:=by
 rcases hc with rfl | rfl <;> decide
section
variable {rs:List Str}{n:Nat}(hrs:∀ x∈rs,Row n x)
include hrs
theorem qL2 {qs:List Nat}{z:Str}(hz:Row n z)(bz:qX5 rs n z)(hq:∀ q∈qs,q < n/\opB rs q=true)(mz:∀ q∈qs,∀ i,i < n->¬ ch (lvT rs n q) i=45->ch z i=ch (lvT rs n q) i):Free rs n qs z:=by
 refine ⟨hz,bz,λq hq' r hr nt a ha=>?_⟩
 by_cases c:awC rs q r=45
 ·rcases aw_dash hrs (hq q hq').1 hr (hq q hq').2 c with h | h
  ·exact h a _ ha (hz.bin r hr)
  ·rw [nt] at h; cases h
 ·have e:ch (lvT rs n q) r=awC rs q r:=by unfold lvT; exact qb8 hr
  have m:=mz q hq' r hr (by rw [e]; exact c)
  rw [m,e]
  exact (qr0 hrs hr c).2.1 a ha
theorem qE7 {q r s c:Nat}(hq:q < n)(hr:r < n)(ht:tgB rs q r=true){d:Nat}(hd:Sgn d)(h:∀ a,Sgn a->0 < q29 rs q a s c):0 < q29 rs r d s c:=by
 rcases (qf6 hrs hq hr).mp ht with e | e
 ·obtain ⟨x,hx,x1,x2⟩:=cnt_pos.mp (h d hd)
  exact cnt_pos.mpr ⟨x,hx,by rw [<- e x hx]; exact x1,x2⟩
 ·obtain ⟨x,hx,x1,x2⟩:=cnt_pos.mp (h (qv8 d) (qn4 hd))
  refine cnt_pos.mpr ⟨x,hx,?_,x2⟩
  have h1:=(hrs x hx).bin r hr
  have:=e x hx
  rw [x1] at this
  by_cases w:ch x r=d
  ·exact w
  ·exact absurd (qC2 hd h1 λz=>w z.symm).symm this
theorem qU4 {qs:List Nat}{q:Nat}{x:Str}(F:Free rs n qs x)(hq:q∈qs)(ql:q < n)(ho:opB rs q=true)(lt:∀ p∈qs,p < n)(cr:∀ p∈qs,p=q∨Cr rs q p):Free rs n qs (q89 n ((bun rs n q).map (·.1)) x):=by
 have hx:=F.row
 have yes:∀ r,r < n->tgB rs q r=true->ch (q89 n ((bun rs n q).map (·.1)) x) r=qv8 (ch x r):=λr hr h=>by
  unfold q89; rw [qb8 hr]; unfold qt6; rw [if_pos (in_bunq.mpr ⟨hr,h⟩)]
 have no:∀ r,r < n->tgB rs q r=false->ch (q89 n ((bun rs n q).map (·.1)) x) r=ch x r:=λr hr h=>by
  unfold q89; rw [qb8 hr]; unfold qt6; rw [if_neg (λw=>by rw [(in_bunq.mp w).2] at h; cases h)]
 have side:∀ r s,r < n->s < n->tgB rs q r=true->tgB rs q s=false->0 < q29 rs r (qv8 (ch x r)) s (ch x s):=λr s hr hs tr ts=>qE7 hrs ql hr tr (qn4 (hx.bin r hr)) (F.fre q hq s hs ts)
 refine ⟨qE4 hx,λr s hr hs=>?_,λp hp r hr nt a ha=>?_⟩
 ·cases tr:tgB rs q r <;> cases ts:tgB rs q s
  ·rw [no r hr tr,no s hs ts]; exact F.bor r s hr hs
  ·rw [no r hr tr,yes s hs ts,qa2]; exact side s r hs hr ts tr
  ·rw [yes r hr tr,no s hs ts]; exact side r s hr hs tr ts
  ·rw [yes r hr tr,yes s hs ts]
   have trs:=qh3 hrs hr ql hs (qj7 hrs ql hr tr) ts
   obtain ⟨y,hy,y1,y2⟩:=cnt_pos.mp (F.bor r s hr hs)
   obtain ⟨⟨o1,ho1,e1⟩,⟨o2,ho2,e2⟩⟩:=op_iff.mp (qn7 hrs ql hr tr ho)
   obtain ⟨o,ho',eo⟩:∃ o∈rs,ch o r=qv8 (ch x r):=by
    rcases qn4 (hx.bin r hr) with w | w
    ·exact ⟨o2,ho2,by rw [w]; exact e2⟩
    ·exact ⟨o1,ho1,by rw [w]; exact e1⟩
   refine cnt_pos.mpr ⟨o,ho',eo,?_⟩
   have bs:=(hrs o ho').bin s hs
   refine qC2 (hx.bin s hs) bs λw=>?_
   rcases (qf6 hrs hr hs).mp trs with e | e
   ·have h1:=e y hy; have h2:=e o ho'
    rw [y1,y2] at h1
    rw [eo,<- w] at h2
    exact notM_ne (hx.bin r hr) (h2.trans h1.symm)
   ·have h1:=e y hy; have h2:=e o ho'
    rw [y1,y2] at h1
    rw [eo,<- w] at h2
    exact h2 (qC2 (hx.bin r hr) (hx.bin s hs) h1).symm
 ·cases tr:tgB rs q r with
  | false=>rw [no r hr tr]; exact F.fre p hp r hr nt a ha
  | true =>
   rw [yes r hr tr]
   rcases cr p hp with e | e
   ·subst e; rw [nt] at tr; cases tr
   ·rw [qa2]
    exact qE7 hrs ql hr tr (qn4 (hx.bin r hr)) λb hb=>e b a hb ha
end
end K19
namespace L2
open PySem PySem.Spec PyProof.Rows
structure Xc (K:PySem.W.Frag) (mg:Str->Option Value) (W B f:Addr) (g:FuncData) (cls qn:Str) (st:Stmt):Prop where
 m:mg cls=some (.ref B)
 k:XKl K B
 s:XSub K B W
 i:XMk K B f
 F:Fun K "__init__" qn st f g
 b:Binds K g ["self"] []
structure CompS1 (X:Cx) (scope:Scope) (x0:Str) (N':List Str) (fm:List (Option Nat)):Prop where
 kind:scope.kind=.function
 one:∀ y∈scope.names,y.2=.cell->y.1=x0
 at0:scope.names.lookup x0=some .cell
 cells:∀ n cl,cellsFrom n scope.names cl=(x0,n) :: cl
 push:∀ h:Heap,pushCells h scope.names=h.push { cls:=.type "cell",data:=.cell none }
 names:∀ y∈scope.names,y.2=.local->scope.names.lookup y.1=some .local
 free:qU5 scope X.env=true
 len:N'.length=fm.length
 map:((N'.zip fm).all λp=>match p.2 with | none=>true | some i=>(X.N[i]? == some p.1) && (scope.names.lookup p.1 == some NameKind.free))=true
def cxD (X:Cx)(scope:Scope)(x0:Str)(N':List Str)(s:Shared)(H:Hp)(C:Addr)(fp:List Addr):Cx :=
 { X with N:=N',s₀:=s,H₀:=H,env:=compEnvC scope ((x0,C + 1) :: qB4 scope X.env) C X.env,outer:=X.stack,ex:=fp,fn:=λx=>x == x0,pn:=[],xe:=λ_ _=>False }
theorem qd3 {x0 x:Str}{n c:Addr}{cl:List (Str×Addr)}(h:((x0,n) :: cl).lookup x=some c):(x=x0/\c=n)∨(x≠x0/\cl.lookup x=some c):=by
 rw [List.lookup_cons] at h
 by_cases e:x=x0
 ·subst e
  simp at h
  exact .inl ⟨rfl,h.symm⟩
 ·have:(x == x0)=false:=by simpa using e
  rw [this] at h
  exact .inr ⟨e,h⟩
theorem qS7 {x0 x:Str}{n c:Addr}{cl:List (Str×Addr)}(e:x≠x0)(h:cl.lookup x=some c):((x0,n) :: cl).lookup x=some c:=by
 rw [List.lookup_cons]
 have:(x == x0)=false:=by simpa using e
 rw [this]; exact h
theorem look_at {x0:Str}{n:Addr}{cl:List (Str×Addr)}:((x0,n) :: cl).lookup x0=some n:=by
 rw [List.lookup_cons]; simp
section
variable {X:Cx}{pins:List (Addr×Obj)}{σ:St}{H H':Hp}{s:Shared}{scope:Scope}{x0:Str}{N':List Str}{fm:List (Option Nat)}{fp:List Addr}{h':Heap}{tk:Nat}
theorem CompS1.cl (S:CompS1 X scope x0 N' fm)(I:Inv X pins σ H s):∀ p∈scope.names,p.2=NameKind.free->∃ c,X.env.cells.lookup p.1=some c:=λp hp hf=>I.ok.has p.1 (qf5 S.free hp hf)
theorem CompS1.look (S:CompS1 X scope x0 N' fm)(I:Inv X pins σ H s){x:Str}{c:Addr}(h:(qB4 scope X.env).lookup x=some c):X.env.cells.lookup x=some c/\(x,NameKind.free)∈scope.names:=by
 rcases qq7 scope.names [] (S.cl I) h with q | q
 ·exact q
 ·simp at q
theorem CompS1.free_ne (S:CompS1 X scope x0 N' fm){x:Str}(h:scope.names.lookup x=some .free):x≠x0:=λe=>by
 subst e
 rw [S.at0] at h
 cases h
theorem qD4 (S:CompS1 X scope x0 N' fm)(I:Inv X pins σ H s)(hf:∀ b∈fp,qj5 X pins H b)(hfs:∀ b∈fp,b < s.heap.objs.size)
  (hn:h'.Ns s.heap.objs.size λ_=>none) (hc0:h'.IsCell (s.heap.objs.size + 1) none) (hk:∀ b o,s.heap.get? b=some o->h'.get? b=some o):Inv (cxD X scope x0 N' s H s.heap.objs.size fp) [] (seeσ fm σ) H { s with heap:=h',toks:=tk }:=by
 have cl:∀{x c},(qB4 scope X.env).lookup x=some c->X.env.cells.lookup x=some c/\(x,NameKind.free)∈scope.names:=λh=>S.look I h
 have ltc:∀ x c,X.env.cells.lookup x=some c->c < s.heap.objs.size:=λx c e=>by
  obtain ⟨v,q⟩:=I.cell x c e
  exact q.lt
 refine ⟨⟨I.ok.mod,?_,I.ok.glob,I.ok.blt,Nat.le_refl _,λx y c h1 h2=>?_,λx hx=>?_,λx c h e=>?_,I.ok.hd,I.ok.frames,.inl rfl,λb hb=>⟨Nat.ne_of_lt (hfs b hb),λx c e z=>?_⟩,I.bs,Nat.le_trans I.ok.bsz I.sz,λb o e hb=>?_,λb hb z=>?_,I.stack,I.stkFree⟩,
  rfl,I.bare,Un.kept hk,⟨_,hn,λi x v e1 e2 e3=>?_⟩,λx c e=>?_,I.hok.fresh (Nat.le_refl _),λx c e=>?_,λp hp=>absurd (show p∈([]:List (Addr×Obj)) from hp) (by simp),I.hok.kept hk,?_⟩
 ·exact S.kind
 ·rcases qd3 h1 with ⟨e1,c1⟩ | ⟨e1,c1⟩ <;> rcases qd3 h2 with ⟨e2,c2⟩ | ⟨e2,c2⟩
  ·rw [e1,e2]
  ·have q:=ltc _ _ (cl c2).1
   rw [c1] at q
   exact absurd q (Nat.not_lt_of_le (Nat.le_succ _))
  ·have q:=ltc _ _ (cl c1).1
   rw [c2] at q
   exact absurd q (Nat.not_lt_of_le (Nat.le_succ _))
  ·exact I.ok.inj x y c (cl c1).1 (cl c2).1
 ·have hx:(relabel scope X.env).names.lookup x=some .cell∨(relabel scope X.env).names.lookup x=some .free:=hx
  by_cases ex:x=x0
  ·subst ex
   exact ⟨_,look_at⟩
  have fr:scope.names.lookup x=some .free:=by
   rcases hx with hx | hx
   ·rcases q59 hx with q | q
    ·exact absurd (S.one _ (q55 q) rfl) ex
    ·exact q.1
   ·rcases q59 hx with q | q
    ·exact q
    ·exact q.1
  have m:=q55 fr
  obtain ⟨c,hc⟩:=S.cl I (x,.free) m rfl
  exact ⟨c,qS7 ex (qf0 hc _ _ (.inl m))⟩
 ·have h:(x == x0)=true:=h
  have h:x=x0:=by simpa using h
  rcases qd3 e with ⟨_,c1⟩ | ⟨n1,_⟩
  ·show s.heap.objs.size<=c
   rw [c1]
   exact Nat.le_succ _
  ·exact absurd h n1
 ·rcases qd3 e with ⟨_,c1⟩ | ⟨_,c1⟩
  ·have q:=hfs b hb
   rw [<- z,c1] at q
   exact absurd q (Nat.not_lt_of_le (Nat.le_succ _))
  ·exact (hf b hb).2.2.2.2.1 x c (cl c1).1 z
 ·rcases (hf b hb).2.2.2.1 with z | z
  ·exact I.ok.noex b o e z
  ·exact absurd (Nat.lt_of_lt_of_le (Heap.lt_size (I.ok.bs b o e).1) z) (Nat.lt_irrefl _)
 ·rcases List.mem_cons.mp (I.stkSub b z) with q | q
  ·exact (hf b hb).2.1 q
  ·exact (hf b hb).2.2.1 q
 ·-- a name of the def,seen in the block
  have e1:N'[i]? = some x:=e1
  have il:i < fm.length:=by rw [<- S.len]; exact (List.getElem?_eq_some_iff.mp e1).1
  have ef:fm[i]? = some fm[i]:=by simp [il]
  unfold seeσ at e2
  rw [List.getElem?_map,ef] at e2
  cases q:fm[i] with
  | none=>rw [q] at e2; simp at e2
  | some j =>
   rw [q] at e2 ef
   have e2:(σ[j]?).join=some v:=by simpa using e2
   have e2':σ[j]? = some (some v):=by
    cases z:σ[j]? with
    | none=>rw [z] at e2; simp at e2
    | some w=>rw [z] at e2; simp at e2; rw [e2]
   have mz:(x,some j)∈N'.zip fm:=by
    have:(N'.zip fm)[i]? = some (x,some j):=by rw [List.getElem?_zip_eq_some]; exact ⟨e1,ef⟩
    exact List.mem_of_getElem? this
   have ok:=List.all_eq_true.mp S.map _ mz
   simp only [Bool.and_eq_true,beq_iff_eq] at ok
   have kx:=qf5 S.free (q55 ok.2) rfl
   obtain ⟨m,hm,hl⟩:=I.loc
   obtain ⟨u,ru,lk⟩:=hl j x v ok.1 e2' (by rcases kx with k | k; exact .inr (.inl k); exact .inr (.inr k))
   refine ⟨u,ru,.inr ?_⟩
   rcases lk with ⟨k,_⟩ | ⟨_,c,hc,⟨o,ho,hd⟩⟩
   ·rcases kx with z | z
    ·rw [z] at k; cases k
    ·rw [z] at k; cases k
   ·exact ⟨qe4 ok.2,c,qS7 (S.free_ne ok.2) (qf0 hc _ _ (.inl (q55 ok.2))),o,hk _ _ ho,hd⟩
 ·rcases qd3 e with ⟨_,c1⟩ | ⟨_,c1⟩
  ·subst c1
   exact ⟨none,hc0⟩
  ·obtain ⟨v,o,ho,hd⟩:=I.cell x c (cl c1).1
   exact ⟨v,o,hk _ _ ho,hd⟩
 ·rcases qd3 e with ⟨_,c1⟩ | ⟨_,c1⟩
  ·subst c1
   exact I.hok.fresh (Nat.le_succ _)
  ·exact I.freeC x c (cl c1).1
 ·show (seeσ fm σ).length=N'.length
  unfold seeσ
  rw [List.length_map,S.len]
theorem qt2 {σ':St}{s1 s2:Shared}{p1:List (Addr×Obj)}(I:Inv X pins σ H s)(hf:∀ b∈fp,qj5 X pins H b)(J:Inv (cxD X scope x0 N' s H s.heap.objs.size fp) p1 σ' H' s1)(hs:s2.os=s1.os)(hg:AllBare s2.gens)
  (hh:Heap.SameBut s.heap.objs.size s1.heap s2.heap):Inv X pins σ H' s2:=by
 have un:Un (frs X.stack) fp H H' s.heap s1.heap:=J.base
 have hne:∀ b o,s.heap.get? b=some o->b≠s.heap.objs.size:=λb o e=>Nat.ne_of_lt (Heap.lt_size e)
 have free':H' s.heap.objs.size=none:=J.free
 refine I.call' (ch:=fp) (hs.trans J.os) ⟨λb o e n hb hx=>?_,λb o e n hb hx=>?_,un.free,λb o e hx=>?_,un.tups,un.frzs,un.tbls⟩ (λb o e=>?_) hg λb hb=>?_
 ·exact (hh.2 b (hne b o e)).trans (un.keep b o e n hb hx)
 ·obtain ⟨sl,q⟩:=un.slot b o e n hb hx
  exact ⟨sl,(hh.2 b (hne b o e)).trans q⟩
 ·obtain ⟨o',q⟩:=un.there b o e hx
  exact ⟨o',(hh.2 b (hne b o e)).trans q⟩
 ·refine (J.hok b o e).stay (λc v hc q=>(hh.2 c ?_).trans q) (λ_ q=>q) λ_ _ q=>q
  rintro rfl
  rcases hc with z | z
  ·rw [<- z,free'] at e; cases e
  ·rw [free'] at z; cases z
 ·obtain ⟨_,f1,_,f3,f4,f5⟩:=hf b hb
  exact ⟨f3,f1,f4,f5⟩
end
section
variable {X:Cx}{elt iter tg:Expr}{ifs:List Expr}{scope:Scope}{x0:Str}{pos:Pos}{N':List Str}{fm:List (Option Nat)}{wi:TI}{g:TG}{tt:TT}{te:TE}
theorem qL5 {R:Result->Shared->Prop}{pins:List (Addr×Obj)}{σ:St}{H:Hp}{s s1:Shared}{it p C:Addr}{fp:List Addr}{tn:Nat->Heap->Prop}{J:It}{Q:Hp->Prop}{H0:Hp}{σ0:St}
  (hc:X.calm=true) (hg:PG (cxD X scope x0 N' s H C fp) tg g) (ht:qM2 (cxD X scope x0 N' s H C fp) ifs tt) (he:PE (cxD X scope x0 N' s H C fp) elt te)
  (T:Turn X.prog X.w X.K tg J fp it tn) (hfp:∀{H':Hp},(∀ b∈fp,H' b=none)->∀ b∈fp,qj5 (cxD X scope x0 N' s H C fp) [] H' b)
  (I:Inv (cxD X scope x0 N' s H C fp) [] σ0 H0 s1) (st:tn 0 s1.heap) (hfr:∀ b∈fp,H0 b=none) (blk:qX7 J p g tt te σ0 H0 Q)
  (hR:∀ σ' H' s',Inv (cxD X scope x0 N' s H C fp) [] σ' H' s'->Q H'->R (.ok .next) s') :
  codeAny (model X.prog X.w) X.A (.compLoop (.ListComp elt [⟨tg,iter,ifs,0⟩] scope pos) 0 (.ref it) (.ref p) (compEnvC scope ((x0,C + 1) :: qB4 scope X.env) C X.env)) R s1:=by
 obtain ⟨W,⟨m0,w0⟩,turn⟩:=blk
 refine codeAny_loop rfl (λn s'=>∃ i σ' H',Inv (cxD X scope x0 N' s H C fp) [] σ' H' s'/\tn i s'.heap/\(∀ b∈fp,H' b=none)/\W i n σ' H') (λn s2 hI=>?_) m0 ⟨0,σ0,H0,I,st,hfr,w0⟩
 obtain ⟨i,σ2,H2,I2,st2,fr2,w2⟩:=hI
 show wpAny _ X.A ((compTurn (.ListComp elt [⟨tg,iter,ifs,0⟩] scope pos) 0 (.ref it) (.ref p) (compEnvC scope ((x0,C + 1) :: qB4 scope X.env) C X.env)).onRaise λx=>do noteFrame x (compEnvC scope ((x0,C + 1) :: qB4 scope X.env) C X.env); theTreesLotGoes x) _ _ s2
 refine wpAny_noted ?_
 rw [compTurn_list]
 have lift:∀{α:Type} {t:Sem α} {Q1 Q2:α->Shared->Prop} {E2:Value->Shared->Prop} {s':Shared},wpAny (model X.prog X.w) X.A t Q1 (λ_ _=>False) s'->(∀ a s'',Q1 a s''->Q2 a s'')->wpAny (model X.prog X.w) X.A t Q2 E2 s' :=
  λh k=>wpAny_mono h k λ_ _ z=>z.elim
 rcases turn i n σ2 H2 w2 with ⟨stop,qn⟩ | ⟨go,N,hN,step⟩
 ·refine wpAny_bind (wpAny_standAt (wpAny_bind (lift (T.done (cxD X scope x0 N' s H C fp) rfl rfl rfl hc i [] s2 σ2 H2 _ I2 (hfp fr2) st2 stop) λr s3 q=>?_)))
  obtain ⟨hr,I3⟩:=q
  subst hr
  exact wpAny_pure (hR σ2 H2 s3 I3 qn)
 ·refine wpAny_bind (wpAny_standAt (wpAny_bind (lift (T.item (cxD X scope x0 N' s H C fp) rfl rfl rfl hc i [] s2 σ2 H2 _ I2 (hfp fr2) st2 go) λr s3 q=>?_)))
  obtain ⟨u,hr,h3⟩:=q
  subst hr
  refine wpAny_bind (lift h3 λ_ s4 q4=>?_)
  obtain ⟨x,H4,I4,r4,y4,st4,fr4⟩:=q4
  have I4':=I4.pinned (hfp fr4) (T.obj _ _ st4)
  refine wpAny_bind (lift (hg _ s4 σ2 H4 x u _ I4' r4 (step x H4 y4)) λ_ s5 q5=>?_)
  obtain ⟨σ5,H5,I5,q5⟩:=q5
  refine wpAny_bind (lift (ht _ s5 σ5 H5 _ I5 q5) λb s6 q6=>?_)
  obtain ⟨H6,I6,q6⟩:=q6
  have again:∀{σ7:St} {H7:Hp} {s7:Shared} {m':Nat},Inv (cxD X scope x0 N' s H C fp) ([] ++ qh9 fp s4.heap) σ7 H7 s7->W (i + 1) m' σ7 H7 ->
    ∃ i σ' H',Inv (cxD X scope x0 N' s H C fp) [] σ' H' s7/\tn i s7.heap/\(∀ b∈fp,H' b=none)/\W i m' σ' H':=λ{σ7 H7 s7 m'} I7 w7=>by
   refine ⟨i + 1,σ7,H7,I7.unpinned,T.keep _ _ _ st4 λb hb o e=>(I7.pin (b,o) (List.mem_append_right _ (List.mem_append_right _ (q66 hb e)))).1,λb hb=>?_,w7⟩
   obtain ⟨o,e,d⟩:=T.obj _ _ st4 b hb
   exact (I7.pin (b,o) (List.mem_append_right _ (List.mem_append_right _ (q66 hb e)))).2.1
  cases b with
  | false =>
   rw [if_neg Bool.false_ne_true] at q6
   obtain ⟨m',hm,w7⟩:=hN _ _ q6
   exact wpAny_pure ⟨rfl,m',hm,again I6 w7⟩
  | true =>
   rw [if_pos rfl] at q6
   refine wpAny_bind (wpAny_bind (lift (he _ s6 σ5 H6 _ I6 q6) λu s7 q7=>?_))
   obtain ⟨v,H7,I7,r7,ys,hp,hz,n7⟩:=q7
   obtain ⟨m',hm,w7⟩:=hN _ _ n7
   have ap:=q45 (X:=cxD X scope x0 N' s H C fp) ([] ++ qh9 fp s4.heap) s7 σ5 H7 (.ref p) [v] (.ref p) [u] (λ_ H8=>W (i + 1) m' σ5 H8) I7 rfl (.cons r7 .nil) ⟨p,ys,v,rfl,rfl,hp,hz,w7⟩
   refine wpAny_bind (lift ap λ_ s8 q8=>?_)
   obtain ⟨_,H8,I8,_,w8⟩:=q8
   exact wpAny_pure (wpAny_pure ⟨rfl,m',hm,again I8 w8⟩)
theorem newEnv1 {M:Model}{A:Around}{E:Value->Shared->Prop}{s:Shared}{scope:Scope}{x0:Str}{globals:Addr}{cl:List (Str×Addr)}{qual:Str}{env:Env}{Q:Env->Shared->Prop}
  (hc:∀ n cl,cellsFrom n scope.names cl=(x0,n) :: cl) (hp:∀ h:Heap,pushCells h scope.names=h.push { cls:=.type "cell",data:=.cell none })
  (hQ:Q { scope,locals:=s.heap.objs.size,globals,cells:=(x0,s.heap.objs.size + 1) :: cl,qual,func:=none,code:=env.code,frame:=env.frame,builtins:=env.builtins } { s with heap:=(s.heap.push { cls:=.type "dict",data:=.dict #[] }).push { cls:=.type "cell",data:=.cell none } }) :
  wpAny M A (newFunctionEnv scope globals cl [] qual none .none (some env)) Q E s:=by
 simp only [newFunctionEnv,Option.isSome_some,if_true]
 refine wpAny_bind (wpAny_alloc ?_)
 refine wpAny_bind (wpAny_layCells _ (λname kind cells=>by cases hkc:kind == NameKind.cell <;> simp [hkc]) _ _ _ _ ?_)
 rw [hc,hp,show ({ s with heap:=s.heap.push { cls:=.type "dict",data:=.dict #[] } }:Shared).heap.objs.size=s.heap.objs.size + 1 from Heap.size_push ..]
 rw [List.forIn_nil]
 exact wpAny_bind (wpAny_pure (wpAny_pure hQ))
theorem qD6 {RR:Value->Addr->Result->Shared->Prop}{pins:List (Addr×Obj)}{σ:St}{H:Hp}{s:Shared}{it:Addr}{fp:List Addr}{tn:Nat->Heap->Prop}{J:It}{Q:Addr->Hp->Prop}{E:Value->Shared->Prop}
  (hc:X.calm=true) (S:CompS1 X scope x0 N' fm) (hg:∀ s H C fp,PG (cxD X scope x0 N' s H C fp) tg g) (ht:∀ s H C fp,qM2 (cxD X scope x0 N' s H C fp) ifs tt) (he:∀ s H C fp,PE (cxD X scope x0 N' s H C fp) elt te)
  (T:Turn X.prog X.w X.K tg J fp it tn) (I:Inv X pins σ H s) (st:tn 0 s.heap) (hf:∀ b∈fp,qj5 X pins H b)
  (blk:∀ p,H p=none->qX7 J p g tt te (seeσ fm σ) (upd H p (.lst [])) (Q p))
  (hR:∀ p C H' s' (m:Str->Option Value),s'.heap.Ns C m->(∀ h',Heap.SameBut C s'.heap h'->Inv X pins σ H' { s' with heap:=h' })->qj5 X pins H' C->Q p H'->Inv X pins σ H' s'->RR (.ref p) C (.ok .next) s') :
  wpAny (model X.prog X.w) X.A (newList []) (λacc s₃=>wpAny (model X.prog X.w) X.A (newFunctionEnv scope X.env.globals (qB4 scope X.env) [] X.env.qual none .none (some X.env)) (λcenv s₄ =>
   codeAny (model X.prog X.w) X.A (.compStart (.ListComp elt [⟨tg,iter,ifs,0⟩] scope pos) 0 (.ref it) acc { cenv with scope:=relabel scope X.env }) (RR acc cenv.locals) s₄) E s₃) E s:=by
 have I1:Inv X pins σ (upd H s.heap.objs.size (.lst [])) { s with heap:=s.heap.push { cls:=.type "list",data:=.seq ([]:List Value).toArray } }:=I.lnew (t':=s.toks) .nil (Nat.zero_le _)
 have hb:=blk _ I.fresh
 refine wpAny_newObj_type (newEnv1 S.cells S.push ?_)
 dsimp only
 generalize hq:s.heap.push { cls:=.type "list",data:=.seq ([]:List Value).toArray }=h2 at I1 ⊢
 have hn1:((h2.push { cls:=.type "dict",data:=.dict #[] }).push { cls:=.type "cell",data:=.cell none }).Ns h2.objs.size λ_=>none:=(Heap.Ns.new h2 (.type "dict")).keeps λ_ _ e=>Heap.get?_push_of_some _ e
 have hc1:((h2.push { cls:=.type "dict",data:=.dict #[] }).push { cls:=.type "cell",data:=.cell none }).IsCell (h2.objs.size + 1) none:=by
  have e:=Heap.get?_push_size (h2.push { cls:=.type "dict",data:=.dict #[] }) (o:={ cls:=.type "cell",data:=.cell none }) rfl
  rw [Heap.size_push] at e
  exact ⟨_,e,rfl⟩
 have old:∀ b o,h2.get? b=some o->((h2.push { cls:=.type "dict",data:=.dict #[] }).push { cls:=.type "cell",data:=.cell none }).get? b=some o:=λb o e=>Heap.get?_push_of_some _ (Heap.get?_push_of_some _ e)
 generalize (h2.push { cls:=.type "dict",data:=.dict #[] }).push { cls:=.type "cell",data:=.cell none }=h1 at hn1 hc1 old ⊢
 have sz:h2.objs.size=s.heap.objs.size + 1:=by rw [<- hq,Heap.size_push]
 have old0:∀ b o,s.heap.get? b=some o->h2.get? b=some o:=λb o e=>hq ▸ Heap.get?_push_of_some _ e
 have lt0:∀ b∈fp,b < s.heap.objs.size:=λb hb=>by
  obtain ⟨o,e,_⟩:=T.obj _ _ st b hb
  exact Heap.lt_size e
 have hf1:∀ b∈fp,qj5 X pins (upd H s.heap.objs.size (.lst [])) b:=λb hb=>by
  obtain ⟨f0,f⟩:=hf b hb
  exact ⟨by rw [q07 (Nat.ne_of_lt (lt0 b hb))]; exact f0,f⟩
 have lt2:∀ b∈fp,b < h2.objs.size:=λb hb=>by rw [sz]; exact Nat.lt_succ_of_lt (lt0 b hb)
 have J0:=qD4 (s:={ s with heap:=h2 }) (h':=h1) (tk:=s.toks) (fp:=fp) S I1 hf1 lt2 hn1 hc1 old
 have st1:tn 0 h1:=T.keep _ _ _ st λb _ o e=>old b o (old0 b o e)
 have fpok:∀{H':Hp},(∀ b∈fp,H' b=none)->∀ b∈fp,qj5 (cxD X scope x0 N' { s with heap:=h2 } (upd H s.heap.objs.size (.lst [])) h2.objs.size fp) [] H' b:=λ{H'} hn b hb=>by
  refine ⟨hn b hb,Nat.ne_of_lt (lt2 b hb),λz=>?_,.inl hb,λx c e z=>?_,λp hp=>absurd (show p∈([]:List (Addr×Obj)) from hp) (by simp)⟩
  ·rcases List.mem_cons.mp (I.stkSub b z) with q | q
   ·exact (hf b hb).2.1 q
   ·exact (hf b hb).2.2.1 q
  ·rcases qd3 e with ⟨_,c1⟩ | ⟨_,c1⟩
   ·have q:=lt2 b hb
    rw [<- z,c1] at q
    exact absurd q (Nat.not_lt_of_le (Nat.le_succ _))
   ·exact (hf b hb).2.2.2.2.1 x c (S.look I c1).1 z
 have loop:=qL5 (iter:=iter) (pos:=pos) (R:=RR (.ref s.heap.objs.size) h2.objs.size) (σ:=σ) (pins:=pins) hc (hg _ _ _ _) (ht _ _ _ _) (he _ _ _ _) T fpok J0 st1 (λb hb=>(hf1 b hb).1) hb λσ' H' s' Jv qv=>by
  obtain ⟨m,hm,_⟩:=Jv.loc
  exact hR _ _ H' s' m hm (λh' sb=>qt2 (s:={ s with heap:=h2 }) I1 hf1 Jv rfl Jv.bare sb) (I1.fpOk (Nat.le_refl _) Jv.free) qv (qt2 (s:={ s with heap:=h2 }) I1 hf1 Jv rfl Jv.bare (Heap.SameBut.refl ..))
 exact codeAny_compStart_list loop (T.self _ 0 _ _ _ st1 loop)
theorem z05 {i:Nat}{x:Str}{px spos:Pos}(hc:X.calm=true)(hN:X.N.Nodup)(hx:X.N[i]? = some x)(hl:X.env.kindOf x=some .local)(S:CompS1 X scope x0 N' fm)(hi:PI X tg iter wi)(hg:∀ s H C fp,PG (cxD X scope x0 N' s H C fp) tg g)
  (ht:∀ s H C fp,qM2 (cxD X scope x0 N' s H C fp) ifs tt) (he:∀ s H C fp,PE (cxD X scope x0 N' s H C fp) elt te) (hs:∀ x,foldedSetIterable iter X.env x=pure x:=by intro _; rfl)
  (hsw:swapsWith (.ListComp elt [⟨tg,iter,ifs,0⟩] scope pos) (some (.Name x px)) spos.line X.env=pure true:=by rfl) :
  PS X (.Assign [.Name x px] (.ListComp elt [⟨tg,iter,ifs,0⟩] scope pos) spos) (sComp fm wi g tt te i):=by
 intro pins s σ H D I h
 rw [exec_Assign_Name_used _ _ _ _ hsw]
 refine wpAny_bind (wpAny_standAt (wpAny_bind ?_))
 show wpAny _ _ (comprehension (.ListComp elt [⟨tg,iter,ifs,0⟩] scope pos) scope X.env _ (newList []) false (eval iter X.env) (some (assign (.Name x px) X.env)) >>= _) _ _ s
 refine wpAny_bind (thn (wpAny_comprehension_free (use:=some (assign (.Name x px) X.env)) (Q:=λ_ s'=>SP X pins D .next s') rfl hs (qd6 (S.cl I)) S.kind S.names
  (thn (hi pins s σ H _ I h) λv s1 h1=>thn h1 λitv s2 h2=>?_)) λ_ s' q=>wpAny_pure (wpAny_pure q))
 obtain ⟨it,fp,tn,J,H2,e,I2,T,st2,f2,blk⟩:=h2
 subst e
 refine qD6 (RR:=λacc C=>compPost (model X.prog X.w) X.A X.xe (some (assign (.Name x px) X.env)) (λ_ s'=>SP X pins D .next s') acc C) (Q:=λp H'=>D.nx (σ.set i (some (.ref p))) H') hc S hg ht he T I2 st2 f2 blk ?_
 intro p C H' s' m hm back fC q I'
 obtain ⟨f0,f1,f2,f3,f4,f5⟩:=fC
 show wpAny _ _ (assign (.Name x px) X.env (.ref p)) _ _ s'
 refine wpAny_assign_Name (qn8 I' hN hx (.inl hl) (v:=.ref p) rfl (λs'' I'' ⟨a,sb,ha⟩=>?_) (.inr hl))
 have haC:C≠a:=by
  rcases ha with z | z
  ·rw [z]; exact f1
  ·exact Ne.symm (f4 x a z)
 refine ⟨m,hm.sameBut sb haC,λh3 sb3=>⟨σ.set i (some (.ref p)),H',I''.turned (t':=s''.toks) (λb o hb e=>(sb3.2 b hb).trans e) f0 f1 f3 f4 f5,q⟩⟩
end
section
variable {X:Cx}
theorem qT8:∀{ss:List Int}{vs:List Value},Vals (ss.map V.int) vs->IntsAre vs ss:=by
 intro ss
 induction ss with
 | nil=>intro vs h; cases h; exact .nil
 | cons x r ih =>
  intro vs h
  cases h with
  | cons hx ht =>
   obtain ⟨t,rfl⟩:=hx
   exact .cons x t (ih ht)
theorem qn6:∀{ss:List Int}{vs:List Value},IntsAre vs ss->Vals (ss.map V.int) vs
 | _,_,.nil=>.nil
 | _,_,.cons x t r=>.cons ⟨t,rfl⟩ (qn6 r)
theorem qA9:qj3 X (.builtin "sorted") (λxs H Q=>∃(a:Addr) (ss:List Int),xs=[.ref a]/\SqL X.K H a (ss.map V.int)/\ss.length < 64/\∀ p (ss':List Int),ss'.Perm ss->ss'.Pairwise (· <= ·)->H p=none->Q (.ref p) (upd H p (.lst (ss'.map V.int)))):=by
 intro pins s σ H xs us Q I r h
 obtain ⟨a,ss,rfl,hq,h64,q⟩:=h
 obtain ⟨u,rfl,ru⟩:=r.one
 cases ru
 obtain ⟨its,rv,p,hz⟩:=I.list hq
 have ln:its.length=ss.length:=by rw [<- rv.length,List.length_map]
 refine sorted_ints p.isList (qT8 rv) (by omega) λout ss' hS' hp hs=>?_
 obtain ⟨e,he⟩:=sortedAll_at s.heap its out
 have I':=I.laid (t':=s.toks) (λb o e=>sortedAll_old e) (Nat.le_succ _) (show ObjOk X.prog X.w _ (sortedAll s.heap its out) (s.heap.objs.size + 1) (.lst (ss'.map V.int)) from ⟨by rw [List.length_map] at hz ⊢; rw [hp.length_eq]; exact hz,out.toList,e,qn6 hS',he⟩)
 exact ⟨.ref (s.heap.objs.size + 1),_,I',rfl,q _ ss' hp hs (I.hok.fresh (Nat.le_succ _))⟩
end
end L2
namespace L2
open PySem PySem.Spec
theorem qY0:∀{xs:List V}{us:List Value}(k:Nat),Vals xs us->Vals (xs.take k) (us.take k)/\Vals (xs.drop k) (us.drop k):=by
 intro xs us k h
 induction h generalizing k with
 | nil=>simp; exact .nil
 | cons f r ih =>
  cases k with
  | zero=>exact ⟨.nil,.cons f r⟩
  | succ k=>exact ⟨.cons f (ih k).1,(ih k).2⟩
section
variable {X:Cx}
def rInsert:V->List V->Hp->VK->Prop:=λx vs H Q=>∃ l xs i y,x=.ref l/\vs=[.int i,y]/\H l=some (.lst xs)/\xs.length < sizeLine/\0<=i/\i<=xs.length/\Q .non (upd H l (.lst (xs.take i.toNat ++ y :: xs.drop i.toNat)))
theorem qS1:MtM X "list.insert" rInsert:=by
 intro pins s σ H x vs v us Q I rx rv h
 obtain ⟨l,xs,i,y,rfl,rfl,hH,hz,i0,il,q⟩:=h
 cases rx
 cases rv with
 | cons r1 rv =>
 cases rv with
 | cons r2 rv =>
 cases rv
 obtain ⟨t,rfl⟩:=r1
 obtain ⟨z,its,n,r,hl,e⟩:=I.lstM hH
 have ln:xs.length=its.length:=r.length
 have sl:=sizeLine_eq
 have fit:¬ (!Builtin.List.listFitsIndex i)=true:=by
  have:Builtin.List.listFitsIndex i=true:=by
   unfold Builtin.List.listFitsIndex
   rw [Bool.and_eq_true]
   constructor
   ·exact decide_eq_true (by omega)
   ·exact decide_eq_true (by omega)
  rw [this]; decide
 rename_i u2
 refine call_meets F.slot_list_insert ⟨_,e,rfl⟩ F.entry_list_insert (F.args_list_insert_3 _ _ _) (PySem.AutoListH.list_insert_list_int_val_1 l its.toArray n i t u2 fit (by rw [List.size_toArray]; omega)) ⟨e,?_⟩
 have hk:(if i < 0 then (i + ((its.toArray.size:Nat):Int)).toNat else min i.toNat its.toArray.size)=i.toNat:=by
  rw [if_neg (by omega),List.size_toArray]; omega
 obtain ⟨c1,c2⟩:=qY0 i.toNat r
 refine ⟨.non,_,I.lset (its':=its.take i.toNat ++ u2 :: its.drop i.toNat) hH e ?_ (c1.append (.cons r2 c2)) ?_,rfl,q⟩
 ·show ((its.toArray.extract 0 (if i < 0 then (i + ((its.toArray.size:Nat):Int)).toNat else min i.toNat its.toArray.size)).push u2 ++ its.toArray.extract (if i < 0 then (i + ((its.toArray.size:Nat):Int)).toNat else min i.toNat its.toArray.size))=_
  rw [hk]
  apply Array.ext'
  simp
  exact List.take_of_length_le (by rw [List.length_drop]; exact Nat.le_refl _)
 ·rw [List.length_append,List.length_cons,List.length_take,List.length_drop]
  omega
end
end L2
namespace L2
open PySem
section
variable {X:Cx}
def rAllK (K:PySem.W.Frag):List V->Hp->VK->Prop:=λxs H Q=>∃(a:Addr) (bs:List Bool),xs=[.ref a]/\SqL K H a (bs.map V.bl)/\Q (.bl (bs.all id)) H
theorem qW5 {K:PySem.W.Frag}(hK:X.K=K)(hc:X.calm=true):qj3 X (.builtin "all") (rAllK K):=by
 subst hK
 exact q90 hc
end
end L2
namespace L2
open PySem PySem.Spec PyProof.Rows
def qX9:List V->List V->Bool
 | [],[]=>true
 | x :: xs,y :: ys=>eqV x y && qX9 xs ys
 | _,_=>false
theorem qH4:∀ xs ys:List Int,qX9 (xs.map V.int) (ys.map V.int)=decide (xs=ys)
 | [],[]=>rfl
 | [],_ :: _=>rfl
 | _ :: _,[]=>rfl
 | x :: xs,y :: ys=>by
  show (eqV (V.int x) (V.int y) && qX9 (xs.map V.int) (ys.map V.int))=_
  rw [qH4 xs ys,show eqV (V.int x) (V.int y)=(x == y) from rfl,Bool.eq_iff_iff]
  simp
theorem qH3:∀{xs ys:List V},xs.length≠ys.length->qX9 xs ys=false
 | [],[],h=>absurd rfl h
 | [],_ :: _,_=>rfl
 | _ :: _,[],_=>rfl
 | x :: xs,y :: ys,h=>by
  show (eqV x y && qX9 xs ys)=false
  rw [qH3 (xs:=xs) (ys:=ys) (λz=>h (by rw [List.length_cons,List.length_cons,z])),Bool.and_false]
theorem qI7:∀{xs ys:List V},xs.length=ys.length->(List.range xs.length).all (λj=>eqV (xs.getD j .non) (ys.getD j .non))=qX9 xs ys
 | [],[],_=>rfl
 | [],_ :: _,h=>by cases h
 | _ :: _,[],h=>by cases h
 | x :: xs,y :: ys,h=>by
  have ih:=qI7 (xs:=xs) (ys:=ys) (by rw [List.length_cons,List.length_cons] at h; omega)
  show (List.range (xs.length + 1)).all _=(eqV x y && qX9 xs ys)
  rw [List.range_succ_eq_map,List.all_cons,List.all_map,<- ih]
  rfl
theorem qB6:∀{xs:List V}{us:List Value},Vals xs us->xs.all qi9=true->∀ j (h:j < us.length),RelV (xs.getD j .non) us[j]/\qi9 (xs.getD j .non)=true
 | _,_,.nil,_,j,h=>absurd h (by simp)
 | x :: xs,u :: us,.cons r t,f,0,h=>by
  rw [List.all_cons,Bool.and_eq_true] at f
  exact ⟨r,f.1⟩
 | x :: xs,u :: us,.cons r t,f,j + 1,h=>by
  rw [List.all_cons,Bool.and_eq_true] at f
  exact qB6 t f.2 j (by simpa using h)
theorem Vals.len_ {xs:List V}{us:List Value}(h:Vals xs us):xs.length=us.length:=by
 induction h with
 | nil=>rfl
 | cons _ _ ih=>rw [List.length_cons,List.length_cons,ih]
section
variable {X:Cx}
def rEqL (K:PySem.W.Frag)(neg:Bool):R2:=λx y H Q=>∃ a b xs ys,x=.ref a/\y=.ref b/\SqL K H a xs/\SqL K H b ys/\xs.all qi9=true/\ys.all qi9=true/\Q (.bl (if neg then !qX9 xs ys else qX9 xs ys)) H
theorem op_neL (hu:X.A.units < cLine):OpR X (compareOp .NotEq) (rEqL X.K true):=by
 intro pins s σ H x y v u Q I rx ry h
 obtain ⟨a,b,xs,ys,rfl,rfl,ha,hb,fx,fy,q⟩:=h
 cases rx
 cases ry
 obtain ⟨its,r1,p1,_⟩:=I.list ha
 obtain ⟨its2,r2,p2,_⟩:=I.list hb
 have l1:=r1.len_
 have l2:=r2.len_
 by_cases e:xs.length=ys.length
 ·refine PySem.EqBoolInt.of_rcne (SeqAt.RcNeAt.lists (e:=λj=>eqV (xs.getD j .non) (ys.getD j .non)) p1.isList p2.isList (by simp; omega) hu (λj h1 h2=>?_)) ⟨.bl _,H,I,rfl,?_⟩
  ·have a1:=qB6 r1 fx j (by simpa using h1)
   have a2:=qB6 r2 fy j (by simpa using h2)
   exact z94 a1.1 a2.1 a1.2 a2.2
  ·rw [show its.toArray.size=xs.length by simp; omega,qI7 e]
   exact q
 ·refine PySem.EqBoolInt.of_rcne (SeqAt.RcNeAt.lists_lengths p1.isList p2.isList (by simp; omega) hu) ⟨.bl true,H,I,rfl,?_⟩
  rw [qH3 e] at q
  exact q
end
def Dt.pyq:Dt->Dt->Bool
 | .non,.non=>true
 | .bl a,.bl b=>a == b
 | .int a,.int b=>a == b
 | .bl a,.int b=>(if a then 1 else 0) == b
 | .int a,.bl b=>a == (if b then 1 else 0)
 | .str a,.str b=>a == b
 | .lst a,.lst b=>pyqs a b
 | .tup a,.tup b=>pyqs a b
 | _,_=>false
where pyqs:List Dt->List Dt->Bool
 | [],[]=>true
 | a :: r,b :: s=>a.pyq b && pyqs r s
 | _,_=>false
theorem qu5:∀{xs ys:List Dt},xs.length≠ys.length->Dt.pyq.pyqs xs ys=false
 | [],[],h=>absurd rfl h
 | [],_ :: _,_=>by simp only [Dt.pyq.pyqs]
 | _ :: _,[],_=>by simp only [Dt.pyq.pyqs]
 | x :: xs,y :: ys,h=>by
  rw [Dt.pyq.pyqs,qu5 (xs:=xs) (ys:=ys) (λz=>h (by rw [List.length_cons,List.length_cons,z])),Bool.and_false]
theorem qu6:∀{xs ys:List Dt},xs.length=ys.length->(List.range xs.length).all (λj=>(xs.getD j .non).pyq (ys.getD j .non))=Dt.pyq.pyqs xs ys
 | [],[],_=>by simp only [Dt.pyq.pyqs]; rfl
 | [],_ :: _,h=>by cases h
 | _ :: _,[],h=>by cases h
 | x :: xs,y :: ys,h=>by
  have ih:=qu6 (xs:=xs) (ys:=ys) (by rw [List.length_cons,List.length_cons] at h; omega)
  rw [Dt.pyq.pyqs,<- ih]
  show (List.range (xs.length + 1)).all _=_
  rw [List.range_succ_eq_map,List.all_cons,List.all_map]
  rfl
theorem qF4 {x y:V}{u:Value}(h1:RelV x u)(h2:RelV y u):x=y:=by
 cases x <;> cases y <;> simp only [RelV] at h1 h2 <;> (try subst h1) <;> (try (obtain ⟨t,rfl⟩:=h1)) <;> (try (obtain ⟨t2,h2⟩:=h2)) <;> (try cases h2) <;> rfl
theorem qt4:∀{xs ys:List V}{us:List Value},Vals xs us->Vals ys us->xs=ys
 | _,_,_,.nil,.nil=>rfl
 | _,_,_,.cons r t,.cons r' t'=>by rw [qF4 r r',qt4 t t']
theorem qK8 {h:Heap}{l:Addr}{a b:Array Value}(h1:h.IsList l a)(h2:h.IsList l b):a=b:=by
 obtain ⟨o,e,_,n,d⟩:=h1
 obtain ⟨o',e',_,n',d'⟩:=h2
 rw [e] at e'
 cases e'
 rw [d] at d'
 injection d'
theorem qT6 {h:Heap}{l:Addr}{a b:Array Value}(h1:h.IsTuple l a)(h2:h.IsTuple l b):a=b:=by
 obtain ⟨o,e,_,n,d⟩:=h1
 obtain ⟨o',e',_,n',d'⟩:=h2
 rw [e] at e'
 cases e'
 rw [d] at d'
 injection d'
section
variable {X:Cx}{pins:List (Addr×Obj)}{s:Shared}{σ:St}{H:Hp}
theorem qV1 (I:Inv X pins σ H s){x:V}{d:Dt}(h:Den X.K H x d):∀{e:Dt},Den X.K H x e->d=e:=by
 induction h with
 | non=>intro e h'; cases h'; rfl
 | bl b=>intro e h'; cases h'; rfl
 | int b=>intro e h'; cases h'; rfl
 | str b=>intro e h'; cases h'; rfl
 | @lst a xs ds h1 h2 h3 h4 ih =>
  intro e h'
  cases h' with
  | @lst _ xs' ds' g1 g2 g3 g4 =>
   obtain ⟨its,r1,p1,_⟩:=I.list h1
   obtain ⟨its2,r2,p2,_⟩:=I.list g1
   have e:its=its2:=by have:=qK8 p1.isList p2.isList; simpa using this
   subst e
   have e:=qt4 r1 r2
   subst e
   congr 1
   refine List.ext_getElem (by omega) λj j1 j2=>?_
   have z1:xs[j]? = some xs[j]:=List.getElem?_eq_getElem (by omega)
   exact ih j _ _ z1 (List.getElem?_eq_getElem j1) (g4 j _ _ z1 (List.getElem?_eq_getElem j2))
  | @tup _ xs' ds' g1 g2 g3 g4 =>
   obtain ⟨its,r1,p1,_⟩:=I.list h1
   obtain ⟨its2,r2,p2,_⟩:=I.tuple g1
   exact absurd rfl (SeqAt.ne_of_list_tuple p1.isList p2)
 | @tup a xs ds h1 h2 h3 h4 ih =>
  intro e h'
  cases h' with
  | @tup _ xs' ds' g1 g2 g3 g4 =>
   obtain ⟨its,r1,p1,_⟩:=I.tuple h1
   obtain ⟨its2,r2,p2,_⟩:=I.tuple g1
   have e:its=its2:=by have:=qT6 p1 p2; simpa using this
   subst e
   have e:=qt4 r1 r2
   subst e
   congr 1
   refine List.ext_getElem (by omega) λj j1 j2=>?_
   have z1:xs[j]? = some xs[j]:=List.getElem?_eq_getElem (by omega)
   exact ih j _ _ z1 (List.getElem?_eq_getElem j1) (g4 j _ _ z1 (List.getElem?_eq_getElem j2))
  | @lst _ xs' ds' g1 g2 g3 g4 =>
   obtain ⟨its,r1,p1,_⟩:=I.tuple h1
   obtain ⟨its2,r2,p2,_⟩:=I.list g1
   exact absurd rfl (SeqAt.ne_of_list_tuple p2.isList p1)
mutual
theorem qu7:∀ d:Dt,d.pyq d=true
 | .non=>by simp [Dt.pyq]
 | .bl _=>by simp [Dt.pyq]
 | .int _=>by simp [Dt.pyq]
 | .str _=>by simp [Dt.pyq]
 | .lst ds=>by rw [Dt.pyq]; exact qp1 ds
 | .tup ds=>by rw [Dt.pyq]; exact qp1 ds
theorem qp1:∀ ds:List Dt,Dt.pyq.pyqs ds ds=true
 | []=>by simp [Dt.pyq.pyqs]
 | d :: ds=>by rw [Dt.pyq.pyqs,qu7 d,qp1 ds]; rfl
end
theorem qH5 (I:Inv X pins σ H s){x:V}{d e:Dt}(h:Den X.K H x d)(h':Den X.K H x e):d.pyq e=true:=by
 rw [qV1 I h h']; exact qu7 e
theorem qm5 {xs:List V}{us:List Value}(h:Vals xs us)(j:Nat)(hj:j < us.length)(hx:j < xs.length):RelV xs[j] us[j]:=by
 obtain ⟨u,h1,h2⟩:=Vals.get h (List.getElem?_eq_getElem hx)
 rw [List.getElem?_eq_getElem hj] at h1
 cases h1
 exact h2
theorem z49 (I:Inv X pins σ H s){x:V}{d:Dt}(h:Den X.K H x d):∀{y:V}{e:Dt},Den X.K H y e->∀{A:Around}{u v:Value},A.units + d.deep < cLine->RelV x u->RelV y v->SeqAt.EqAt A s u v (d.pyq e):=by
 induction h with
 | non =>
  intro y e h' A u v hu ru rv
  cases ru
  cases h' with
  | non=>cases rv; exact SeqAt.EqAt.same _
  | bl b=>cases rv; exact SeqAt.EqAt.none_bool b
  | int b=>obtain ⟨t,rfl⟩:=rv; exact SeqAt.EqAt.none_int b t
  | str b=>obtain ⟨t,rfl⟩:=rv; exact SeqAt.EqAt.none_str b t
  | lst g1=>cases rv; obtain ⟨_,_,p,_⟩:=I.list g1; exact SeqAt.EqAt.none_list p.isList (by omega)
  | tup g1=>cases rv; obtain ⟨_,_,p,_⟩:=I.tuple g1; exact SeqAt.EqAt.none_tuple p (by omega)
 | bl a =>
  intro y e h' A u v hu ru rv
  cases ru
  cases h' with
  | non=>cases rv; exact SeqAt.EqAt.bool_none a
  | bl b=>cases rv; exact SeqAt.EqAt.bool_bool a b
  | int b=>obtain ⟨t,rfl⟩:=rv; exact SeqAt.EqAt.bool_int a b t
  | str b=>obtain ⟨t,rfl⟩:=rv; exact SeqAt.EqAt.bool_str a b t
  | lst g1=>cases rv; obtain ⟨_,_,p,_⟩:=I.list g1; exact SeqAt.EqAt.bool_list a p.isList (by omega)
  | tup g1=>cases rv; obtain ⟨_,_,p,_⟩:=I.tuple g1; exact SeqAt.EqAt.bool_tuple a p (by omega)
 | int a =>
  intro y e h' A u v hu ru rv
  obtain ⟨t',rfl⟩:=ru
  cases h' with
  | non=>cases rv; exact SeqAt.EqAt.int_none a t'
  | bl b=>cases rv; exact SeqAt.EqAt.int_bool a t' b
  | int b=>obtain ⟨t,rfl⟩:=rv; exact SeqAt.EqAt.int_int a t' b t
  | str b=>obtain ⟨t,rfl⟩:=rv; exact SeqAt.EqAt.int_str a t' b t
  | lst g1=>cases rv; obtain ⟨_,_,p,_⟩:=I.list g1; exact SeqAt.EqAt.int_list a t' p.isList (by omega)
  | tup g1=>cases rv; obtain ⟨_,_,p,_⟩:=I.tuple g1; exact SeqAt.EqAt.int_tuple a t' p (by omega)
 | str a =>
  intro y e h' A u v hu ru rv
  obtain ⟨t',rfl⟩:=ru
  cases h' with
  | non=>cases rv; exact SeqAt.EqAt.str_none a t'
  | bl b=>cases rv; exact SeqAt.EqAt.str_bool a t' b
  | int b=>obtain ⟨t,rfl⟩:=rv; exact SeqAt.EqAt.str_int a t' b t
  | str b=>obtain ⟨t,rfl⟩:=rv; exact SeqAt.EqAt.str_str a t' b t
  | lst g1=>cases rv; obtain ⟨_,_,p,_⟩:=I.list g1; exact SeqAt.EqAt.str_list a t' p.isList (by omega)
  | tup g1=>cases rv; obtain ⟨_,_,p,_⟩:=I.tuple g1; exact SeqAt.EqAt.str_tuple a t' p (by omega)
 | @lst a xs ds h1 h2 h3 h4 ih =>
  intro y e h' A u v hu ru rv
  cases ru
  obtain ⟨its,r1,p1,_⟩:=I.list h1
  have l1:=r1.len_
  have hd:A.units + (1 + Dt.deep.deeps ds) < cLine:=hu
  cases h' with
  | non=>cases rv; exact SeqAt.EqAt.list_none p1.isList (by omega)
  | bl b=>cases rv; exact SeqAt.EqAt.list_bool b p1.isList (by omega)
  | int b=>obtain ⟨t,rfl⟩:=rv; exact SeqAt.EqAt.list_int b t p1.isList (by omega)
  | str b=>obtain ⟨t,rfl⟩:=rv; exact SeqAt.EqAt.list_str b t p1.isList (by omega)
  | @tup b _ _ g1 =>
   cases rv
   obtain ⟨_,_,p2,_⟩:=I.tuple g1
   exact SeqAt.EqAt.of_refs (SeqAt.ne_of_list_tuple p1.isList p2) (SeqAt.RcAt.list_tuple p1.isList p2 (by omega))
  | @lst b xs' ds' g1 g2 g3 g4 =>
   cases rv
   by_cases ab:a=b
   ·subst ab
    rw [qH5 I (.lst h1 h2 h3 h4) (.lst g1 g2 g3 g4)]
    exact SeqAt.EqAt.same _
   obtain ⟨its2,r2,p2,_⟩:=I.list g1
   have l2:=r2.len_
   refine SeqAt.EqAt.of_refs ab ?_
   by_cases el:ds.length=ds'.length
   ·have:=SeqAt.RcAt.lists (A:=A) (s:=s) (e:=λj=>(ds.getD j .non).pyq (ds'.getD j .non)) p1.isList p2.isList (by simp; omega) (by omega) (λj j1 j2=>by
     have j1:j < its.length:=by simpa using j1
     have j2:j < its2.length:=by simpa using j2
     have z1:xs[j]? = some xs[j]:=List.getElem?_eq_getElem (by omega)
     have z2:ds[j]? = some ds[j]:=List.getElem?_eq_getElem (by omega)
     have z3:ds'[j]? = some ds'[j]:=List.getElem?_eq_getElem (by omega)
     have z4:xs'[j]? = some xs'[j]:=List.getElem?_eq_getElem (by omega)
     rw [List.getD_eq_getElem?_getD,List.getD_eq_getElem?_getD,z2,z3]
     have dd:=qj0 z2
     refine ih j _ _ z1 z2 (g4 j _ _ z4 z3) ?_ (by simpa using qm5 r1 j j1 (by omega)) (by simpa using qm5 r2 j j2 (by omega))
     show A.units + 1 + _ < cLine
     omega)
    rw [show its.toArray.size=ds.length by simp; omega,qu6 el] at this
    exact this
   ·rw [Dt.pyq,qu5 el]
    exact SeqAt.RcAt.lists_lengths p1.isList p2.isList (by simp; omega) (by omega)
 | @tup a xs ds h1 h2 h3 h4 ih =>
  intro y e h' A u v hu ru rv
  cases ru
  obtain ⟨its,r1,p1,_⟩:=I.tuple h1
  have l1:=r1.len_
  have hd:A.units + (1 + Dt.deep.deeps ds) < cLine:=hu
  cases h' with
  | non=>cases rv; exact SeqAt.EqAt.tuple_none p1 (by omega)
  | bl b=>cases rv; exact SeqAt.EqAt.tuple_bool b p1 (by omega)
  | int b=>obtain ⟨t,rfl⟩:=rv; exact SeqAt.EqAt.tuple_int b t p1 (by omega)
  | str b=>obtain ⟨t,rfl⟩:=rv; exact SeqAt.EqAt.tuple_str b t p1 (by omega)
  | @lst b _ _ g1 =>
   cases rv
   obtain ⟨_,_,p2,_⟩:=I.list g1
   exact SeqAt.EqAt.of_refs (λw=>SeqAt.ne_of_list_tuple p2.isList p1 w.symm) (SeqAt.RcAt.tuple_list p1 p2.isList (by omega))
  | @tup b xs' ds' g1 g2 g3 g4 =>
   cases rv
   by_cases ab:a=b
   ·subst ab
    rw [qH5 I (.tup h1 h2 h3 h4) (.tup g1 g2 g3 g4)]
    exact SeqAt.EqAt.same _
   obtain ⟨its2,r2,p2,_⟩:=I.tuple g1
   have l2:=r2.len_
   refine SeqAt.EqAt.of_refs ab ?_
   have:=SeqAt.RcAt.tuples (A:=A) (s:=s) (e:=λj=>(ds.getD j .non).pyq (ds'.getD j .non)) p1 p2 (by omega) (λj j1 j2=>by
     have j1:j < its.length:=by simpa using j1
     have j2:j < its2.length:=by simpa using j2
     have z1:xs[j]? = some xs[j]:=List.getElem?_eq_getElem (by omega)
     have z2:ds[j]? = some ds[j]:=List.getElem?_eq_getElem (by omega)
     have z3:ds'[j]? = some ds'[j]:=List.getElem?_eq_getElem (by omega)
     have z4:xs'[j]? = some xs'[j]:=List.getElem?_eq_getElem (by omega)
     rw [List.getD_eq_getElem?_getD,List.getD_eq_getElem?_getD,z2,z3]
     have dd:=qj0 z2
     refine ih j _ _ z1 z2 (g4 j _ _ z4 z3) ?_ (by simpa using qm5 r1 j j1 (by omega)) (by simpa using qm5 r2 j j2 (by omega))
     show A.units + 1 + _ < cLine
     omega)
   by_cases el:ds.length=ds'.length
   ·rw [show its.toArray.size=ds.length by simp; omega,show its2.toArray.size=ds.length by simp; omega,Nat.min_self,qu6 el,beq_self_eq_true,Bool.and_true] at this
    exact this
   ·rw [Dt.pyq,qu5 el]
    have nb:(its.toArray.size == its2.toArray.size)=false:=by simp; omega
    rw [nb,Bool.and_false] at this
    exact this
end
section
variable {X:Cx}
def rInD (K:PySem.W.Frag)(k:Nat)(neg:Bool):R2:=λx y H Q=>∃(a:Addr) (xs:List V) (ds:List Dt) (d:Dt),y=.ref a/\SqL K H a xs/\xs.length=ds.length/\Den K H x d/\(∀(i:Nat) x d,xs[i]? = some x->ds[i]? = some d->Den K H x d/\d.deep<=k)/\Q (.bl (if neg then !(ds.any λc=>c.pyq d) else ds.any λc=>c.pyq d)) H
theorem qI6 {p:Value->Bool}{q:Dt->Bool}:∀{us:List Value}{ds:List Dt},us.length=ds.length->(∀(j:Nat) u d,us[j]? = some u->ds[j]? = some d->p u=q d)->us.any p=ds.any q
 | [],[],_,_=>rfl
 | [],_ :: _,h,_=>by cases h
 | _ :: _,[],h,_=>by cases h
 | u :: us,d :: ds,h,f=>by
  rw [List.any_cons,List.any_cons,qI6 (us:=us) (ds:=ds) (by simpa using h) (λj u d h1 h2=>f (j + 1) u d (by simpa using h1) (by simpa using h2)),f 0 u d rfl rfl]
open Classical in
noncomputable def eqOf (us:List Value)(ds:List Dt)(d:Dt)(u:Value):Bool:=decide (∃(j:Nat) (c:Dt),us[j]? = some u/\ds[j]? = some c/\c.pyq d=true)
open Classical in
theorem qU6 {pins:List (Addr×Obj)}{s:Shared}{σ:St}{H:Hp}(I:Inv X pins σ H s){xs:List V}{us:List Value}{ds:List Dt}(r:Vals xs us)(hd:∀(i:Nat) x d,xs[i]? = some x->ds[i]? = some d->Den X.K H x d)(d:Dt){j:Nat}{u:Value}{c:Dt}(h1:us[j]? = some u)(h2:ds[j]? = some c):eqOf us ds d u=c.pyq d:=by
 have l:=r.len_
 have jl:=(List.getElem?_eq_some_iff.mp h1).1
 have z:xs[j]? = some xs[j]:=List.getElem?_eq_getElem (by omega)
 obtain ⟨u',e1,r1⟩:=Vals.get r z
 rw [h1] at e1
 cases e1
 rw [Bool.eq_iff_iff]
 unfold eqOf
 rw [decide_eq_true_iff]
 constructor
 ·rintro ⟨j',c',a,b,e⟩
  have jl':=(List.getElem?_eq_some_iff.mp a).1
  have z':xs[j']? = some xs[j']:=List.getElem?_eq_getElem (by omega)
  obtain ⟨u',e1,r2⟩:=Vals.get r z'
  rw [a] at e1
  cases e1
  have q:=hd _ _ _ z' b
  rw [qF4 r2 r1] at q
  rw [qV1 I (hd _ _ _ z h2) q]
  exact e
 ·intro e
  exact ⟨j,c,h1,h2,e⟩
theorem qQ5 {k:Nat}(hu:X.A.units + (1 + k) < cLine):OpR X (compareOp .NotIn) (rInD X.K k true):=by
 intro pins s σ H x y v u Q I rx ry h
 obtain ⟨p,xs,ds,d,rfl,hq,hl,hd,hx,q⟩:=h
 cases ry
 obtain ⟨its,r,pl,hz⟩:=I.list hq
 have l:=r.len_
 refine SeqAt.notIn_listAt (eqOf its ds d) pl.isList (λw hw=>?_) ⟨.bl _,H,I,rfl,?_⟩
 ·have hw:w∈its:=by simpa using hw
  obtain ⟨j,hj⟩:=List.mem_iff_getElem?.mp hw
  have jl:=(List.getElem?_eq_some_iff.mp hj).1
  have z:xs[j]? = some xs[j]:=List.getElem?_eq_getElem (by omega)
  have z2:ds[j]? = some ds[j]:=List.getElem?_eq_getElem (by omega)
  obtain ⟨u',e1,r1⟩:=Vals.get r z
  rw [hj] at e1
  cases e1
  rw [qU6 I r (λi x d a b=>(hx i x d a b).1) d hj z2]
  have hh:=hx _ _ _ z z2
  refine z49 I hh.1 hd ?_ r1 rx
  show X.A.units + 1 + _ < cLine
  omega
 ·rw [show its.toArray.any (eqOf its ds d)=its.any (eqOf its ds d) by simp,qI6 (q:=λc=>c.pyq d) (by omega) (λj u c a b=>qU6 I r (λi x d a b=>(hx i x d a b).1) d a b)]
  exact q
end
end L2
namespace K19
open PySem L2
open PyProof.Rows (envOfC)
abbrev qc3:Stmt:=qa0 (top 9) 0
abbrev qc1:Stmt:=qa0 (top 10) 0
abbrev qc0:Stmt:=top 18
abbrev qo8:Stmt:=top 45
def qx2 (m:Nat):List Int->List Int->Option Bool
 | _,[]=>none
 | seen,z :: r=>if z < 0∨(m:Int)<=z then some true else if z∈seen then some false else qx2 m (seen ++ [z]) r
theorem z95 {m:Nat}{ns:List Int}{i:Nat}{z:Int}(h:ns[i]? = some z):qx2 m (ns.take i) (ns.drop i)=if z < 0∨(m:Int)<=z then some true else if z∈ns.take i then some false else qx2 m (ns.take (i + 1)) (ns.drop (i + 1)):=by
 obtain ⟨hl,e⟩:=List.getElem?_eq_some_iff.mp h
 rw [List.drop_eq_getElem_cons hl,e,List.take_add_one,h]
 rfl
theorem qw6 {m:Nat}:∀{r seen:List Int},qx2 m seen r=none->(∀ z∈r,0<=z/\z < (m:Int)/\z∉seen)/\r.Nodup
 | [],seen,_=>⟨(λz h=>by cases h),List.nodup_nil⟩
 | z :: r,seen,h=>by
  unfold qx2 at h
  split at h
  ·cases h
  ·rename_i c
   split at h
   ·cases h
   ·rename_i c2
    obtain ⟨h1,h2⟩:=qw6 h
    refine ⟨λy hy=>?_,List.nodup_cons.mpr ⟨λw=>(h1 z w).2.2 (List.mem_append_right _ (List.mem_singleton.mpr rfl)),h2⟩⟩
    rcases List.mem_cons.mp hy with rfl | hy
    ·exact ⟨by omega,by omega,c2⟩
    ·exact ⟨(h1 y hy).1,(h1 y hy).2.1,λw=>(h1 y hy).2.2 (List.mem_append_left _ w)⟩
theorem qw1 (r:Int):∀ L:List Int,inV (.int r) (L.map V.int)=decide (r∈L)
 | []=>rfl
 | x :: L=>by
  show (eqV (.int x) (.int r) || inV (.int r) (L.map V.int))=_
  rw [qw1 r L,Bool.eq_iff_iff,Bool.or_eq_true,decide_eq_true_iff,decide_eq_true_iff,List.mem_cons]
  show (x == r)=true∨_↔_
  rw [beq_iff_eq]
  exact ⟨λh=>h.imp Eq.symm id,λh=>h.imp Eq.symm id⟩
theorem qb6:∀ L:List Int,(L.map V.int).all qi9=true
 | []=>rfl
 | x :: L=>qb6 L
theorem qV7 (xs:List V)(k:Nat):ql0 xs none (some (k:Int))=xs.take k:=by
 unfold ql0
 have e:HT.sIx xs.length xs.length (some (k:Int))=min k xs.length:=by
  unfold HT.sIx
  simp only
  split <;> omega
 have e0:HT.sIx xs.length 0 none=0:=rfl
 rw [e,e0,List.drop_zero,Nat.sub_zero]
 by_cases c:k<=xs.length
 ·rw [Nat.min_eq_left c]
 ·rw [Nat.min_eq_right (by omega),List.take_length,List.take_of_length_le (by omega)]
theorem qH7 (xs:List V)(k:Nat):ql0 xs (some (k:Int)) none=xs.drop k:=by
 unfold ql0
 have e:HT.sIx xs.length 0 (some (k:Int))=min k xs.length:=by
  unfold HT.sIx
  simp only
  split <;> omega
 have e0:HT.sIx xs.length xs.length none=xs.length:=rfl
 rw [e,e0]
 by_cases c:k<=xs.length
 ·rw [Nat.min_eq_left c]
  exact List.take_of_length_le (by rw [List.length_drop]; exact Nat.le_refl _)
 ·rw [Nat.min_eq_right (by omega),List.drop_of_length_le (Nat.le_refl _),List.drop_of_length_le (by omega)]
  simp
section
variable {P:Program}{w:World}{K:PySem.W.Frag}{mg:Str->Option Value}{base:Heap}{C fi fa ft fy fm fc:Addr}{gi ga gt gy gm gc:FuncData}{W BC BS fW fC fS BP fP BU fU:Addr}{gW gC gS gP gU:FuncData}
theorem qZ3:FnScope ["self"] ["self"] (q02 qc3):=⟨rfl,rfl,rfl,by decide +kernel,rfl,by decide +kernel,by decide +kernel⟩
theorem z26 (T:Xs K mg W BC BS fW fC fS gW gC gS) (Z:Xc K mg W BP fP gP "NoBundle" "NoBundle.__init__" qc3):FnOk P w K mg base (CXE P w) 2 fP gP ["self"] (qy5 BP "no bundle"):=by
 refine Z.F.okN qZ3 (λvs H Q E h=>?_) (λcdv A outer s H vs Q E hr h=>?_)
 ·obtain ⟨ea,tb,rfl,_⟩:=h
  rfl
 ·obtain ⟨ea,tb,rfl,e1,k⟩:=h
  refine ⟨_,q05 (q26 (qn1 T.aW (qn3 T) hr (by rfl) T.mW T.bW q19 (q00 (pv 0) (q00 q15 q03)))),?_⟩
  exact ⟨_,rfl,ea,BP,tb,_,rfl,e1,Z.k,k⟩
theorem qZ1:FnScope ["self"] ["self"] (q02 qc1):=⟨rfl,rfl,rfl,by decide +kernel,rfl,by decide +kernel,by decide +kernel⟩
theorem z19 (T:Xs K mg W BC BS fW fC fS gW gC gS) (Z:Xc K mg W BU fU gU "Twice" "Twice.__init__" qc1):FnOk P w K mg base (CXE P w) 2 fU gU ["self"] (qy5 BU "told twice"):=by
 refine Z.F.okN qZ1 (λvs H Q E h=>?_) (λcdv A outer s H vs Q E hr h=>?_)
 ·obtain ⟨ea,tb,rfl,_⟩:=h
  rfl
 ·obtain ⟨ea,tb,rfl,e1,k⟩:=h
  refine ⟨_,q05 (q26 (qn1 T.aW (qn3 T) hr (by rfl) T.mW T.bW q19 (q00 (pv 0) (q00 q15 q03)))),?_⟩
  exact ⟨_,rfl,ea,BU,tb,_,rfl,e1,Z.k,k⟩
def spUnt (BU:Addr):Sp:=λvs H Q E=>∃(z:Int) (a:Addr) (ys:List Int),vs=[.int z,.ref a]/\H a=some (.lst (ys.map V.int))/\(z∈ys->Ref H E BU "told twice")/\(z∉ys->Q .non H)
abbrev N_un:List Str:=["number", "told"]
abbrev P_un:List Str:=["number", "told"]
theorem sc_un:FnScope N_un P_un (q02 qc0):=⟨rfl,rfl,rfl,by decide +kernel,rfl,by decide +kernel,by decide +kernel⟩
theorem qQ9 {f:Addr}{fd:FuncData}(D:Df K mg "check_untold" qc0 P_un f fd) (X:Xs K mg W BC BS fW fC fS gW gC gS) (Z:Xc K mg W BU fU gU "Twice" "Twice.__init__" qc1):FnOk P w K mg base (CXE P w) 4 f fd P_un (spUnt BU):=by
 refine D.F.okE sc_un (λvs H Q E h=>?_) (λcdv A outer s H vs Q E hr h=>?_)
 ·obtain ⟨z,a,ys,rfl,_⟩:=h
  rfl
 ·obtain ⟨z,a,ys,rfl,ea,k1,k2⟩:=h
  refine ⟨_,q05 (q41 (q11 q98 (pv 0) (pv 1) (by rfl)) (q05 (qm8 rfl qk3 (qi0 Z.k Z.i (z19 X Z) (hr.mono (by decide)) (by rfl) Z.m Z.b qk3))) q21),?_⟩
  refine ⟨_,rfl,_,rfl,a,_,rfl,.inl (SqL.of ea),rfl,qb6 ys,_,rfl,?_⟩
  show if inV (.int z) (ys.map V.int)=true then _ else _
  rw [qw1]
  by_cases c:z∈ys
  ·rw [decide_eq_true c]
   exact q48 λe he=>(k1 c).raise Z.k he
  ·rw [decide_eq_false c]
   exact q30 (k2 c)
def z74 (BP BU:Addr):Sp:=λvs H Q E=>∃(a:Addr) (ns:List Int) (m:Nat),vs=[.ref a,.int m]/\H a=some (.lst (ns.map V.int))/\(qx2 m [] ns=some true->Ref H E BP "no bundle")/\(qx2 m [] ns=some false->Ref H E BU "told twice")/\(qx2 m [] ns=none->∀ H',Same H H'->Q .non H')
abbrev N_cn:List Str:=["numbers", "many", "at", "number"]
abbrev P_cn:List Str:=["numbers", "many"]
theorem sc_cn:FnScope N_cn P_cn (q02 qo8):=⟨rfl,rfl,rfl,by decide +kernel,rfl,by decide +kernel,by decide +kernel⟩
theorem ok_cnum {f fu:Addr}{fd gu:FuncData}(D:Df K mg "check_numbers" qo8 P_cn f fd) (Du:Df K mg "check_untold" qc0 P_un fu gu) (Gu:FnOk P w K mg base (CXE P w) 4 fu gu P_un (spUnt BU)) (X:Xs K mg W BC BS fW fC fS gW gC gS) (Z:Xc K mg W BP fP gP "NoBundle" "NoBundle.__init__" qc3) (M:Gm mg):FnOk P w K mg base (CXE P w) 5 f fd P_cn (z74 BP BU):=by
 refine D.F.okE sc_cn (λvs H Q E h=>?_) (λcdv A outer s H vs Q E hr h=>?_)
 ·obtain ⟨a,ns,m,rfl,_⟩:=h
  rfl
 ·obtain ⟨a,ns,m,rfl,ea,k1,k2,k3⟩:=h
  refine ⟨_,q05 (q36 PassesOwn.leaving rfl (qf2 (by rfl) M.enum (q00 (pv 0) q03)) (q64 rfl (q17 (q09 (i:=2) sc_cn.nd rfl (Or.inl rfl)) (q17 (q09 (i:=3) sc_cn.nd rfl (Or.inl rfl)) q44)))
   (q04 (q41 (PW.pt (qh7 (q11 qk4 (pv 3) q06 (q14 _)) (qb2 (q11 op_ge (pv 3) (pv 1) (q14 _))))) (q05 (qm8 rfl qk3 (qi0 Z.k Z.i (z26 X Z) (hr.mono (by decide)) (by rfl) Z.m Z.b qk3))) q21)
   (q05 (q26 (q23 Du Gu (hr.mono (by decide)) qk3 (q00 (pv 3) (q00 (q56 qe2 (pv 0) q76 (q75 (pv 2))) q03))))))),?_⟩
  refine ⟨_,rfl,a,rfl,⟨_,SqL.of ea⟩,?_⟩
  refine qq3 (K:=K) (a:=a) (xs:=ns.map V.int) (λi σ H2=>∃ v2 v3,σ=[some (.ref a),some (.int m),v2,v3]/\Same H H2/\qx2 m [] ns=qx2 m (ns.take i) (ns.drop i)) ⟨_,_,rfl,Same.refl _,rfl⟩ (λi σ H2 _ ⟨_,_,_,s2,_⟩=>SqL.of (s2 _ _ ea)) ?_ ?_
  ·rintro i y TT σ H2 hi hTT ⟨v2,v3,rfl,s2,du⟩
   rw [List.getElem?_map] at hi
   cases zi:ns[i]? with
   | none=>rw [zi] at hi; cases hi
   | some z =>
    rw [zi] at hi
    cases hi
    have sT:=s2.trans' (Same.new (o:=.tup [.int i,.int z]) hTT)
    refine ⟨TT,_,rfl,SqT.of q01,rfl,_,_,rfl,_,_,rfl,rfl,?_⟩
    generalize upd H2 TT (.tup [.int i,.int z])=H3 at *
    rw [z95 zi] at du
    refine (λ(bad:z < 0∨(m:Int)<=z->(?G:Prop))=>?main) ?bad
    case main =>
     refine ⟨_,rfl,_,_,rfl,rfl,_,rfl,?_⟩
     show if decide (z < 0)=true then _ else _
     by_cases c1:z < 0
     ·rw [decide_eq_true c1]
      refine q48 (q48 ?_)
      exact bad (.inl c1)
     rw [decide_eq_false c1]
     refine q30 ⟨_,rfl,_,rfl,_,_,rfl,rfl,_,rfl,?_⟩
     show if decide (z ≥ (m:Int))=true then _ else _
     by_cases c2:(m:Int)<=z
     ·rw [decide_eq_true c2]
      refine q48 ?_
      exact bad (.inr c2)
     rw [decide_eq_false c2]
     rw [if_neg (λw=>w.elim c1 c2)] at du
     refine q30 ?_
     refine ⟨_,rfl,_,rfl,_,rfl,_,rfl,a,_,rfl,SqL.of (sT _ _ ea),λp hp=>?_⟩
     have sp:=Same.new (o:=.lst (ql0 (ns.map V.int) none (some (i:Int)))) hp
     rw [qV7,<- List.map_take] at sp ⊢
     refine ⟨z,p,ns.take i,rfl,q01,λh=>?_,λh=>?_⟩
     ·rw [if_pos h] at du
      exact (k2 du).same (sT.trans' sp)
     ·rw [if_neg h] at du
      exact ⟨_,_,rfl,sT.trans' sp,du⟩
    case bad =>
     intro h
     rw [if_pos h] at du
     exact λe he=>((k1 du).same sT).raise Z.k he
  ·rintro σ H2 ⟨v2,v3,rfl,s2,du⟩
   rw [List.length_map,List.drop_length] at du
   exact k3 du H2 s2
abbrev qg4:Stmt:=top 46
abbrev qg5:Stmt:=top 47
abbrev s_aw:Stmt:=top 48
def pkI (a b:Int):List Key:=[.inl a,.inl b]
def prI (ns:List Int)(i:Nat):List (List Key):=(ns.drop (i + 1)).map (pkI (ns.getD i 0))
def prs (ns:List Int)(i:Nat):List (List Key):=(List.range i).flatMap (prI ns)
theorem prI_len (ns:List Int)(i:Nat):(prI ns i).length<=ns.length:=by
 unfold prI
 rw [List.length_map,List.length_drop]
 omega
theorem prs_len (ns:List Int)(i:Nat):(prs ns i).length<=i * ns.length:=qi8 (prI_len ns) i
theorem prs_mem {ns:List Int}{k:List Key}(h:k∈prs ns ns.length):∃(i j:Nat) (a b:Int),i < j/\ns[i]? = some a/\ns[j]? = some b/\k=pkI a b:=by
 obtain ⟨i,hi,h⟩:=List.mem_flatMap.mp h
 obtain ⟨b,hb,rfl⟩:=List.mem_map.mp h
 have il:=List.mem_range.mp hi
 obtain ⟨d,hd⟩:=List.mem_iff_getElem?.mp hb
 rw [List.getElem?_drop] at hd
 refine ⟨i,i + 1 + d,ns[i],b,by omega,List.getElem?_eq_getElem il,hd,?_⟩
 rw [List.getD_eq_getElem?_getD,List.getElem?_eq_getElem il]
 rfl
theorem mem_prs {ns:List Int}{i j:Nat}{a b:Int}(h:i < j)(hi:ns[i]? = some a)(hj:ns[j]? = some b):pkI a b∈prs ns ns.length:=by
 refine List.mem_flatMap.mpr ⟨i,List.mem_range.mpr (List.getElem?_eq_some_iff.mp hi).1,List.mem_map.mpr ⟨b,?_,?_⟩⟩
 ·refine List.mem_of_getElem? (i:=j - (i + 1)) ?_
  rw [List.getElem?_drop,<- hj]
  congr 1
  omega
 ·rw [List.getD_eq_getElem?_getD,hi]
  rfl
def awL (rs:List Str)(q r:Nat):Nat->List V
 | 0=>[]
 | 1=>if q84 rs q r 110=true then [s1 110] else []
 | _=>(if q84 rs q r 110=true then [s1 110] else []) ++ (if q84 rs q r 121=true then [s1 121] else [])
theorem awL_len (rs:List Str)(q r c:Nat):(awL rs q r c).length<=2:=by
 match c with
 | 0=>exact Nat.zero_le _
 | 1=>show (if q84 rs q r 110=true then [s1 110] else []).length<=2; split <;> simp
 | c + 2=>show ((if q84 rs q r 110=true then [s1 110] else []) ++ (if q84 rs q r 121=true then [s1 121] else [])).length<=2; split <;> split <;> simp
def bL (rs:List Str)(q r s:Nat):Nat->List Bool
 | 0=>[]
 | 1=>[decide (0 < q29 rs q 110 r s)]
 | _=>[decide (0 < q29 rs q 110 r s),decide (0 < q29 rs q 121 r s)]
theorem z98 (rs:List Str)(q r s c:Nat):(bL rs q r s c).length<=2:=by
 match c with
 | 0=>exact Nat.zero_le _
 | 1=>exact (by decide:1<=2)
 | c + 2=>exact Nat.le_refl _
def spPairs:Sp:=λvs H Q _=>∃(a:Addr) (ns:List Int),vs=[.ref a]/\H a=some (.lst (ns.map V.int))/\ns.length<=20/\∀ p H',H p=none->Acc H p H' (prs ns ns.length)->Q (.ref p) H'
abbrev N_pr:List Str:=["numbers"]
abbrev P_pr:List Str:=["numbers"]
theorem sc_pr:FnScope N_pr P_pr (q02 qg4):=⟨rfl,rfl,rfl,by decide +kernel,rfl,by decide +kernel,by decide +kernel⟩
abbrev N_pr1:List Str:=["at", "k", "l", "numbers"]
theorem qR9:N_pr1.Nodup:=by decide +kernel
theorem z27 {f:Addr}{fd:FuncData}(D:Df K mg "pairs" qg4 P_pr f fd) (B:Bt mg) (M:Gm mg):FnOk P w K mg base (CXE P w) 1 f fd P_pr (spPairs):=by
 refine D.F.okN sc_pr (λvs H Q E h=>?_) (λcdv A outer s H vs Q E hr h=>?_)
 ·obtain ⟨a,ns,rfl,_⟩:=h
  rfl
 ·obtain ⟨a,ns,rfl,ea,l20,k⟩:=h
  refine ⟨_,q05 (q13 (qn0 (g:=(qM3 K 2 (qa1 (q81 0) (qa1 (q81 1) qM4)))) (N':=N_pr1) (fm:=[none,none,none,some 0]) rfl ⟨rfl,by decide +kernel,by decide +kernel,rfl,rfl,rfl⟩ (qf2 (by rfl) M.enum (q00 (pv 0) q03)) (λ_ _ _ _=>(q64 rfl (q17 (q09 (i:=0) qR9 rfl (Or.inl rfl)) (q17 (q09 (i:=1) qR9 rfl (Or.inl rfl)) q44)))) (λ_ _ _ _=>q35) (λ_ _ _ _ _=>(qv1 (wi:=iList K (tSl (rSlL K) (qE8 3) (tPart (tOp (rI0 λi j=>.int (i + j)) (qE8 0) (tC (.int 1)))) qN3)) rfl (λ_ _ z=>z) (q27 (q56 (r:=rSlL K) qe2 (pv 3) (q75 (q24 q46 (pv 0) q06)) q76)) (q09 (i:=2) qR9 rfl (Or.inl rfl)) q35 (qv2 (λ_ _ z=>z) (q54 (q00 (pv 1) (q00 (pv 2) q03)))))))),?_⟩
  refine ⟨_,rfl,a,rfl,⟨_,SqL.of ea⟩,λp hp=>?_⟩
  refine qv9 (K:=K) (a:=a) (xs:=ns.map V.int) (λi σ H2=>∃ v0 v1 v2,σ=[v0,v1,v2,some (.ref a)]/\Acc H p H2 (prs ns i)) ⟨none,none,none,rfl,Same.new hp,[],q01,.nil⟩ (λi σ H2 _ ⟨_,_,_,_,a2⟩=>SqL.of (a2.same _ _ ea)) ?_ ?_
  ·rintro i y T1 σ H2 hi hT1 ⟨v0,v1,v2,rfl,a2⟩
   rw [List.getElem?_map] at hi
   cases zi:ns[i]? with
   | none=>rw [zi] at hi; cases hi
   | some z =>
    rw [zi] at hi
    cases hi
    have il:=(List.getElem?_eq_some_iff.mp zi).1
    have a2:=a2.mono (Same.new (o:=.tup [.int i,.int z]) hT1)
    refine qk6 (SqT.of q01) ?_
    generalize upd H2 T1 (.tup [.int i,.int z])=H2' at *
    refine ⟨_,rfl,_,rfl,_,_,rfl,rfl,_,rfl,a,_,rfl,SqL.of (a2.same _ _ ea),λb hb=>?_⟩
    have e1:(i:Int) + 1=((i + 1:Nat):Int):=by omega
    rw [e1,qH7,<- List.map_drop]
    have hbp:b≠p:=λw=>by obtain ⟨_,_,e,_⟩:=a2; rw [w,e] at hb; cases hb
    have a3:=a2.mono (Same.new (o:=.lst ((ns.drop (i + 1)).map V.int)) hb)
    have eb:upd H2' b (.lst ((ns.drop (i + 1)).map V.int)) b=some (.lst ((ns.drop (i + 1)).map V.int)):=q01
    generalize upd H2' b (.lst ((ns.drop (i + 1)).map V.int))=H3 at *
    refine ⟨b,rfl,⟨_,SqL.of eb⟩,?_⟩
    have gD:ns.getD i 0=z:=by rw [List.getD_eq_getElem?_getD,zi]; rfl
    refine qC6 (K:=K) (a:=b) (xs:=(ns.drop (i + 1)).map V.int) (λj σ H4=>∃ v2,σ=[some (.int i),some (.int z),v2,some (.ref a)]/\Acc H p H4 (prs ns i ++ ((ns.drop (i + 1)).take j).map (pkI z))/\H4 b=some (.lst ((ns.drop (i + 1)).map V.int))) ⟨_,rfl,by rw [List.take_zero,List.map_nil,List.append_nil]; exact a3,eb⟩ (λi σ H4 _ ⟨_,_,_,s4⟩=>SqL.of s4) ?_ ?_
    ·rintro j y σ H4 hj ⟨v2,rfl,a4,s4⟩
     rw [List.getElem?_map] at hj
     cases zj:(ns.drop (i + 1))[j]? with
     | none=>rw [zj] at hj; cases hj
     | some u =>
      rw [zj] at hj
      cases hj
      refine qb5 ⟨_,rfl,_,rfl,q22 (show 2<=100 by decide),λT2 hT2=>?_⟩
      obtain ⟨ys,y1,y2,y3⟩:=a4.put (k:=pkI z u) hp (Same.refl _) hT2
      refine ⟨ys,y1,?_,_,rfl,?_,?_⟩
      ·rw [y2,List.length_append,List.length_map]
       have h1:=prs_len ns i
       have h2:i * ns.length<=20 * 20:=Nat.mul_le_mul (by omega) l20
       have h3:((ns.drop (i + 1)).take j).length<=20:=by rw [List.length_take,List.length_drop]; omega
       exact Nat.lt_of_le_of_lt (show _<=420 by omega) (by decide)
      ·rw [List.take_add_one,zj,List.map_append,<- List.append_assoc]
       exact y3
      ·rw [q07 hbp,q07 (λw=>by rw [w,hT2] at s4; cases s4)]
       exact s4
    ·rintro σ H4 ⟨v2,rfl,a4,s4⟩
     rw [List.length_map,List.take_length] at a4
     refine ⟨_,_,_,rfl,?_⟩
     unfold prs
     rw [qi7]
     unfold prI
     rw [gD]
     exact a4
  ·rintro σ H2 ⟨v0,v1,v2,rfl,a2⟩
   rw [List.length_map] at a2
   exact k p H2 hp a2
def spAw (C:Addr):Sp:=λvs H Q _=>∃(t dx kp bt:Addr) (n m:Nat) (rs:List Str) (q r:Nat),vs=[.ref t,.int q,.int r]/\TabAt C H t dx kp bt n m rs/\q < n/\r < n/\∀ H',Same H H'->Q (s1 (awC rs q r)) H'
abbrev N_aw:List Str:=["table", "q", "r", "told"]
abbrev P_aw:List Str:=["table", "q", "r"]
theorem sc_aw:FnScope N_aw P_aw (q02 s_aw):=⟨rfl,rfl,rfl,by decide +kernel,rfl,by decide +kernel,by decide +kernel⟩
abbrev N_aw1:List Str:=["sign", "table", "q", "r"]
theorem nd_aw1:N_aw1.Nodup:=by decide +kernel
abbrev N_aw2:List Str:=["a", "table", "q", "r", "sign"]
theorem nd_aw2:N_aw2.Nodup:=by decide +kernel
theorem ok_aw {f:Addr}{fd:FuncData}(D:Df K mg "answer_with_both" s_aw P_aw f fd) (T:Tb K mg C fi fa ft fy fm fc gi ga gt gy gm gc) (Gc:FnOk P w K mg base (CXE P w) 3 fc gc Ptc (qa4 C)) (B:Bt mg) (M:Gm mg):FnOk P w K mg base (CXE P w) 4 f fd P_aw (spAw C):=by
 refine D.F.okN sc_aw (λvs H Q E h=>?_) (λcdv A outer s H vs Q E hr h=>?_)
 ·obtain ⟨t,dx,kp,bt,n,m,rs,q,r,rfl,_⟩:=h
  rfl
 ·obtain ⟨t,dx,kp,bt,n,m,rs,q,r,rfl,tab,hq,hr',k⟩:=h
  obtain ⟨tk,mS⟩:=M.signs
  have two:("ny" : Str).length=2:=by decide +kernel
  refine ⟨_,q04 (z05 (i:=3) (x0 := "sign") (N':=N_aw1) (fm:=[none,some 0,some 1,some 2]) rfl sc_aw.nd rfl rfl ⟨rfl,by decide +kernel,rfl,λ_ _=>rfl,λ_=>rfl,by decide +kernel,rfl,rfl,rfl⟩ (qm2 (qe5 (v:=.str "ny") (by rfl) mS ⟨tk,rfl⟩)) (λ_ _ _ _=>(q09 (i:=0) nd_aw1 rfl (Or.inr rfl))) (λ_ _ _ _=>(q86 (q52 (q12 (qW5 (K:=K) rfl rfl) (by rfl) B.all (by rfl) (q00 (q38 (N':=N_aw2) (fm:=[none,some 1,some 2,some 3,some 0]) rfl ⟨rfl,by decide +kernel,by decide +kernel,rfl,rfl,rfl⟩ (qm2 (qe5 (v:=.str "ny") (by rfl) mS ⟨tk,rfl⟩)) (λ_ _ _ _=>(q09 (i:=0) nd_aw2 rfl (Or.inl rfl))) (λ_ _ _ _=>q35) (λ_ _ _ _=>(q50 qJ8 (q87 (pv 1) T.cl T.mc Gc (hr.mono (by decide)) T.bc .nil q19 (q00 (pv 2) (q00 (pv 0) (q00 (pv 3) (q00 (pv 4) q03))))) q06 (q14 _)))) q03))))) (λ_ _ _ _=>(pv 0)))
   (q05 (q13 (qd0 (q11 q58 (q12 q20 (by rfl) B.len PySem.boot_len (q00 (pv 3) q03)) q06 (q14 _)) (q25 ix_list (pv 3) q06 (λ_ _=>rfl)) q15))),?_⟩
  refine ⟨_,rfl,λp hp=>?_⟩
  refine ql1 (x := "ny") (λc σ H2=>∃ v,σ=[v,some (.ref t),some (.int q),some (.int r)]/\Same H H2/\H2 p=some (.lst (awL rs q r c))) ⟨none,rfl,Same.new hp,q01⟩ ?_ ?_
  ·rintro c σ H2 hc ⟨v,rfl,s2,e2⟩
   rw [two] at hc
   obtain ⟨s,hs,es,nx⟩:∃ s,Sgn s/\sg "ny" c=s1 s/\awL rs q r (c + 1)=awL rs q r c ++ (if q84 rs q r s=true then [s1 s] else []):=by
    have hc':c=0∨c=1:=by omega
    rcases hc' with rfl | rfl
    ·exact ⟨110,.inr rfl,rfl,rfl⟩
    ·exact ⟨121,.inl rfl,rfl,rfl⟩
   rw [es]
   refine ⟨_,rfl,λp2 hp2=>?_⟩
   have pos:∀ a:Nat,decide ((0:Int) < (q29 rs q a r s:Nat))=decide (0 < q29 rs q a r s):=λa=>decide_eq_decide.mpr ⟨λh=>by omega,λh=>by omega⟩
   refine ql1 (x := "ny") (λc σ H3=>∃ v,σ=[v,some (.ref t),some (.int q),some (.int r),some (s1 s)]/\Same H2 H3/\H3 p2=some (.lst ((bL rs q r s c).map V.bl))) ⟨none,rfl,Same.new hp2,q01⟩ ?_ ?_
   ·rintro c2 σ H3 hc2 ⟨v,rfl,s3,e3⟩
    rw [two] at hc2
    have hc':c2=0∨c2=1:=by omega
    have tab3:=tab.mono (s2.trans' s3)
    rcases hc' with rfl | rfl
    ·refine q34 ⟨_,rfl,t,dx,_,rfl,tab3.ins,rfl,_,rfl,_,rfl,_,rfl,_,rfl,t,dx,kp,bt,n,m,rs,q,110,r,s,rfl,tab3,hq,hr',.inr rfl,hs,λH6 s6=>?_⟩
     refine ⟨_,_,rfl,rfl,_,s6 _ _ e3,(by rw [List.length_map]; exact Nat.lt_of_le_of_lt (z98 rs q r s _) (by decide)),_,rfl,Same.grow hp2 (s3.trans' s6),?_⟩
     rw [q01]
     show some (HO.lst ([] ++ [V.bl (decide ((0:Int) < (q29 rs q 110 r s:Nat)))]))=_
     rw [pos]
     rfl
    ·refine q34 ⟨_,rfl,t,dx,_,rfl,tab3.ins,rfl,_,rfl,_,rfl,_,rfl,_,rfl,t,dx,kp,bt,n,m,rs,q,121,r,s,rfl,tab3,hq,hr',.inl rfl,hs,λH6 s6=>?_⟩
     refine ⟨_,_,rfl,rfl,_,s6 _ _ e3,(by rw [List.length_map]; exact Nat.lt_of_le_of_lt (z98 rs q r s _) (by decide)),_,rfl,Same.grow hp2 (s3.trans' s6),?_⟩
     rw [q01]
     show some (HO.lst (_ ++ [V.bl (decide ((0:Int) < (q29 rs q 121 r s:Nat)))]))=_
     rw [pos]
     rfl
   ·rintro σ H3 ⟨v,rfl,s3,e3⟩
    have e:bL rs q r s ("ny" : Str).length=bL rs q r s 2:=by rw [two]
    rw [e] at e3
    have e4:(bL rs q r s 2).all id=q84 rs q r s:=by
     show (decide (0 < q29 rs q 110 r s) && (decide (0 < q29 rs q 121 r s) && true))=_
     rw [Bool.and_true]
     rfl
    refine ⟨p2,_,rfl,SqL.of e3,_,rfl,?_⟩
    show if (bL rs q r s 2).all id=true then _ else _
    rw [e4]
    cases cb:q84 rs q r s with
    | true =>
     rw [cb,if_pos rfl] at nx
     refine q48 ⟨_,rfl,_,s3 _ _ e2,Nat.lt_of_le_of_lt (awL_len rs q r _) (by decide),_,rfl,Same.grow hp (s2.trans' s3),?_⟩
     rw [q01,nx]
    | false =>
     rw [cb,if_neg (by decide),List.append_nil] at nx
     refine q30 ⟨_,rfl,s2.trans' s3,?_⟩
     rw [nx]
     exact s3 _ _ e2
  ·rintro σ H2 ⟨v,rfl,s2,e2⟩
   have e:awL rs q r ("ny" : Str).length=awL rs q r 2:=by rw [two]
   rw [e] at e2
   have k:=k H2 s2
   refine ⟨_,rfl,p,_,rfl,.inl (SqL.of e2),rfl,_,rfl,?_⟩
   unfold awC at k
   have ea:awL rs q r 2=(if q84 rs q r 110=true then [s1 110] else []) ++ (if q84 rs q r 121=true then [s1 121] else []):=rfl
   rw [ea] at e2 ⊢
   cases b1:q84 rs q r 110 <;> cases b2:q84 rs q r 121 <;> simp only [b1,b2,if_pos,if_neg,Bool.false_eq_true,if_true,if_false] at e2 k ⊢
   ·exact q30 k
   ·exact q48 ⟨_,rfl,p,_,_,_,rfl,rfl,SqL.of e2,rfl,k⟩
   ·exact q48 ⟨_,rfl,p,_,_,_,rfl,rfl,SqL.of e2,rfl,k⟩
   ·exact q30 k
def qN6 (C:Addr):Sp:=λvs H Q _=>∃(t dx kp bt:Addr) (n m:Nat) (rs:List Str) (q:Nat),vs=[.ref t,.int q]/\TabAt C H t dx kp bt n m rs/\q < n/\n<=12/\∀ H',Same H H'->Q (.str (lvT rs n q)) H'
abbrev N_lv:List Str:=["table", "lowest"]
abbrev P_lv:List Str:=["table", "lowest"]
theorem sc_lv:FnScope N_lv P_lv (q02 qg5):=⟨rfl,rfl,rfl,by decide +kernel,rfl,by decide +kernel,by decide +kernel⟩
abbrev N_lv1:List Str:=["question", "table", "lowest"]
theorem nd_lv1:N_lv1.Nodup:=by decide +kernel
theorem z29 {f fw:Addr}{fd gw:FuncData}(D:Df K mg "leave_to_turn" qg5 P_lv f fd) (Da:Df K mg "answer_with_both" s_aw P_aw fw gw) (Ga:FnOk P w K mg base (CXE P w) 4 fw gw P_aw (spAw C)) (T:Tb K mg C fi fa ft fy fm fc gi ga gt gy gm gc) (B:Bt mg):FnOk P w K mg base (CXE P w) 5 f fd P_lv (qN6 C):=by
 refine D.F.okN sc_lv (λvs H Q E h=>?_) (λcdv A outer s H vs Q E hr h=>?_)
 ·obtain ⟨t,dx,kp,bt,n,m,rs,q,rfl,_⟩:=h
  rfl
 ·obtain ⟨t,dx,kp,bt,n,m,rs,q,rfl,tab,hq,n12,k⟩:=h
  refine ⟨_,q05 (q13 (qk1 PySem.F.plainAttrs_str PySem.F.slot_str_join PySem.F.type_str_join mt_join q15 (q00 (q38 (N':=N_lv1) (fm:=[none,some 0,some 1]) rfl ⟨rfl,by decide +kernel,by decide +kernel,rfl,rfl,rfl⟩ (q31 (by rfl) B.range (q00 (qb3 (pv 0) rfl) q03)) (λ_ _ _ _=>(q09 (i:=0) nd_lv1 rfl (Or.inl rfl))) (λ_ _ _ _=>q35) (λ_ _ _ _=>(q23 Da Ga (hr.mono (by decide)) q19 (q00 (pv 1) (q00 (pv 2) (q00 (pv 0) q03)))))) q03))),?_⟩
  refine ⟨rfl,_,rfl,t,C,dx,_,_,rfl,tab.ins,T.cl,T.nQ,rfl,_,rfl,by omega,by omega,λp' hp'=>?_⟩
  have en:((n:Nat):Int).toNat=n:=by omega
  rw [en]
  refine q85 (λi σ H4=>∃ v,σ=[v,some (.ref t),some (.int q)]/\Same H H4/\H4 p'=some (.lst ((List.range i).map λj=>s1 (awC rs q j)))) ⟨none,rfl,Same.new hp',q01⟩ ?_ ?_
  ·rintro i σ H4 hi ⟨v,rfl,s4,e4⟩
   rw [Int.zero_add]
   refine q34 ⟨_,rfl,_,rfl,_,rfl,t,dx,kp,bt,n,m,rs,q,i,rfl,tab.mono s4,hq,hi,λH6 s6=>?_⟩
   refine ⟨_,s6 _ _ e4,q68 _ _ (by omega),_,rfl,Same.grow hp' (s4.trans' s6),?_⟩
   rw [q01,<- qf4]
  ·rintro σ H4 ⟨v,rfl,s4,e4⟩
   refine ⟨_,p',(List.range n).map λj=>(⟨#[awC rs q j]⟩:Str),rfl,rfl,?_,by decide,?_,?_⟩
   ·rw [List.map_map]
    exact SqL.of e4
   ·rw [joinlen,List.length_map,List.length_range]; omega
   ·rw [tx_join]
    exact k H4 s4
abbrev ql8:Stmt:=top 44
theorem cros_iff {rs:List Str}{L:List Nat}{k l:Nat}:qk k l∈qw8 rs L L.length↔k < l/\l < L.length/\crB rs (L.getD k 0) (L.getD l 0)=true:=by
 have qk_eq:∀{a b c d:Nat},qk a b=qk c d->a=c/\b=d:=λ{a b c d} h=>by
  unfold qk at h
  simp at h
  omega
 constructor
 ·intro h
  obtain ⟨a,ha,h⟩:=List.mem_flatMap.mp h
  obtain ⟨d,hd,h⟩:=List.mem_flatMap.mp h
  unfold crF at h
  split at h
  ·rename_i c
   obtain ⟨e1,e2⟩:=qk_eq (List.mem_singleton.mp h)
   have h1:=List.mem_range.mp ha
   have h2:=List.mem_range.mp hd
   subst e1 e2
   exact ⟨by omega,by omega,c⟩
  ·cases h
 ·rintro ⟨h1,h2,h3⟩
  refine List.mem_flatMap.mpr ⟨k,List.mem_range.mpr (by omega),List.mem_flatMap.mpr ⟨l - (k + 1),List.mem_range.mpr (by omega),?_⟩⟩
  unfold crF
  rw [show k + 1 + (l - (k + 1))=l by omega,if_pos h3]
  exact List.mem_singleton.mpr rfl
def qf9 (rs:List Str)(n:Nat)(i:Int):Nat:=(q32 rs n).getD i.toNat 0
def FreeAt (H:Hp)(p:Addr)(rs:List Str)(n:Nat)(ns:List Int):Prop :=
 (∃ z,H p=some (.tup [.str "row",.str z])/\Free rs n (ns.map (qf9 rs n)) z/\∀ a∈ns,∀ b∈ns,a=b∨Cr rs (qf9 rs n a) (qf9 rs n b)) ∨
 ∃ k l:Int,H p=some (.tup [.str "bar",.int k,.int l])/\k∈ns/\l∈ns/\k < l/\crB rs (qf9 rs n k) (qf9 rs n l)=false
theorem FreeAt.mono {H H':Hp}{p:Addr}{rs:List Str}{n:Nat}{ns:List Int}(h:FreeAt H p rs n ns)(s:Same H H'):FreeAt H' p rs n ns:=by
 rcases h with ⟨z,e,r⟩ | ⟨k,l,e,r⟩
 ·exact .inl ⟨z,s _ _ e,r⟩
 ·exact .inr ⟨k,l,s _ _ e,r⟩
theorem pyq_pk (a b c d:Int):(dtT (pkI a b)).pyq (dtT (pkI c d))=(decide (a=c) && decide (b=d)):=by
 have e:(dtT (pkI a b)).pyq (dtT (pkI c d))=((a == c) && ((b == d) && true)):=rfl
 rw [e,Bool.and_true]
 rfl
theorem qS6 {rs:List Str}{n:Nat}{z:Int}(h0:0<=z)(h1:z < ((q32 rs n).length:Nat)):atI ((q32 rs n).map iN) z=some (iN (qf9 rs n z))/\(q32 rs n)[z.toNat]? = some (qf9 rs n z):=by
 obtain ⟨k,rfl⟩:∃ k:Nat,z=k:=⟨z.toNat,by omega⟩
 have hk:k < (q32 rs n).length:=by omega
 have e:(q32 rs n)[k]? = some (qf9 rs n (k:Int)):=by
  unfold qf9
  rw [show ((k:Int)).toNat=k by omega,List.getD_eq_getElem?_getD,List.getElem?_eq_getElem hk]
  rfl
 refine ⟨q43 ?_,?_⟩
 ·rw [List.getElem?_map,e]; rfl
 ·rw [show ((k:Int)).toNat=k by omega]; exact e
theorem qe9 {rs:List Str}{n:Nat}{z:Int}(h0:0<=z)(h1:z < ((q32 rs n).length:Nat)):qf9 rs n z < n/\opB rs (qf9 rs n z)=true/\qr3 rs (qf9 rs n z)=true:=by
 have:=List.mem_of_getElem? (qS6 h0 h1).2
 unfold q32 at this
 rw [List.mem_filter,List.mem_range] at this
 exact ⟨this.1,(low_iff.mp this.2).1,this.2⟩
def qO0 (C BC BS BP BU:Addr):Sp:=λvs H Q E=>∃(t dx kp bt nl:Addr) (n m:Nat) (rs:List Str) (ns:List Int),vs=[.ref t,.ref nl]/\TabAt C H t dx kp bt n m rs/\H nl=some (.lst (ns.map V.int))/\ns.length<=20/\1<=n/\n<=12/\(∀ y∈rs,Row n y) /\
 (qx2 (q32 rs n).length [] ns=some true->Ref H E BP "no bundle")/\(qx2 (q32 rs n).length [] ns=some false->Ref H E BU "told twice")/\(qx2 (q32 rs n).length [] ns=none->rs=[]->Ref H E BS "empty") /\
 (qx2 (q32 rs n).length [] ns=none->rs≠[]->∀ p H',Same H H'->FreeAt H' p rs n ns->Q (.ref p) H')
abbrev N_fr:List Str:=["table", "numbers", "lowest", "crossed", "k", "l"]
abbrev P_fr:List Str:=["table", "numbers"]
theorem sc_fr:FnScope N_fr P_fr (q02 ql8):=⟨rfl,rfl,rfl,by decide +kernel,rfl,by decide +kernel,by decide +kernel⟩
abbrev N_fr1:List Str:=["number", "table", "lowest"]
theorem nd_fr1:N_fr1.Nodup:=by decide +kernel
theorem ok_free {f fg fn fx fp fm' fl:Addr}{fd gg gn gx gp gm' gl:FuncData}(D:Df K mg "free_at" ql8 P_fr f fd) (Dg:Df K mg "lowest_questions" qa5 ["table"] fg gg) (Gg:FnOk P w K mg base (CXE P w) 7 fg gg ["table"] (qt8 C)) (Dn:Df K mg "check_numbers" qo8 P_cn fn gn) (Gn:FnOk P w K mg base (CXE P w) 5 fn gn P_cn (z74 BP BU))
  (Dx:Df K mg "crossing" q74 P_cg fx gx) (Gx:FnOk P w K mg base (CXE P w) 8 fx gx P_cg (qr4 C)) (Dp:Df K mg "pairs" qg4 P_pr fp gp) (Dm:Df K mg "meeting" q93 P_mt fm' gm') (Gm':FnOk P w K mg base (CXE P w) 7 fm' gm' P_mt (qy3 C BC BS)) (Dl:Df K mg "leave_to_turn" qg5 P_lv fl gl) (Gl:FnOk P w K mg base (CXE P w) 5 fl gl P_lv (qN6 C)) (T:Tb K mg C fi fa ft fy fm fc gi ga gt gy gm gc) (B:Bt mg) (M:Gm mg):FnOk P w K mg base (CXE P w) 9 f fd P_fr (qO0 C BC BS BP BU):=by
 refine D.F.okE sc_fr (λvs H Q E h=>?_) (λcdv A outer s H vs Q E hr h=>?_)
 ·obtain ⟨t,dx,kp,bt,nl,n,m,rs,ns,rfl,_⟩:=h
  rfl
 ·obtain ⟨t,dx,kp,bt,nl,n,m,rs,ns,rfl,tab,en,l20,n1,n12,hrs,k1,k2,k3,k4⟩:=h
  have hu3:(A.deeper (envOfC "free_at" (q02 ql8) s.heap.objs.size f cdv)).units + (1 + 3) < cLine:=by have:=hr.units; omega
  refine ⟨_,q04 (q18 (i:=2) sc_fr.nd rfl (Or.inr rfl) (q23 Dg Gg (hr.mono (by decide)) q19 (q00 (pv 0) q03)))
   (q04 (q26 (q23 Dn Gn (hr.mono (by decide)) qk3 (q00 (pv 1) (q00 (q12 q20 (by rfl) B.len PySem.boot_len (q00 (pv 2) q03)) q03))))
   (q04 (q18 (i:=3) sc_fr.nd rfl (Or.inl rfl) (q23 Dx Gx (hr.mono (by decide)) q19 (q00 (pv 0) q03)))
   (q04 (q36 PassesOwn.leaving rfl (q27 (q23 Dp (z27 Dp B M) (hr.mono (by decide)) q19 (q00 (q12 qA9 (by rfl) M.sorted (by rfl) (q00 (pv 1) q03)) q03))) (q64 rfl (q17 (q09 (i:=4) sc_fr.nd rfl (Or.inl rfl)) (q17 (q09 (i:=5) sc_fr.nd rfl (Or.inl rfl)) q44)))
   (q05 (q41 (q11 (qQ5 (k:=3) hu3) (q54 (q00 (pv 4) (q00 (pv 5) q03))) (pv 3) (by rfl)) (q05 (q13 (q54 (q00 q15 (q00 (pv 4) (q00 (pv 5) q03)))))) q21)))
   (q05 (q13 (q23 Dm Gm' (hr.mono (by decide)) qk3 (q00 (pv 0) (q00 (q38 (N':=N_fr1) (fm:=[none,some 0,some 2]) rfl ⟨rfl,by decide +kernel,by decide +kernel,rfl,rfl,rfl⟩ (q27 (pv 1)) (λ_ _ _ _=>(q09 (i:=0) nd_fr1 rfl (Or.inl rfl))) (λ_ _ _ _=>q35) (λ_ _ _ _=>(q23 Dl Gl (hr.mono (by decide)) q19 (q00 (pv 1) (q00 (q25 (r:=qP4 K) ix_list (pv 2) (pv 0) (λ_ _=>rfl)) q03))))) q03)))))))),?_⟩
  refine ⟨_,rfl,t,dx,kp,bt,n,m,rs,rfl,tab,hrs,n1,n12,λlw H1 hlw s1' e1=>?_⟩
  refine ⟨_,rfl,_,rfl,lw,_,rfl,.inl (SqL.of e1),nl,ns,(q32 rs n).length,by rw [List.length_map]; rfl,s1' _ _ en,λh=>(k1 h).same s1',λh=>(k2 h).same s1',λdu H2 s2=>?_⟩
  have s02:=s1'.trans' s2
  obtain ⟨rng,nd⟩:=qw6 du
  refine ⟨_,rfl,t,dx,kp,bt,n,m,rs,rfl,tab.mono s02,hrs,n1,n12,λcx H3 hcx acc=>?_⟩
  obtain ⟨s3,as,eas,tas⟩:=acc
  have s03:=s02.trans' s3
  refine ⟨_,rfl,nl,ns,rfl,SqL.of (s03 _ _ en),by omega,λsp ns' hp hpw hsp=>?_⟩
  have s4:=Same.new (o:=.lst (ns'.map V.int)) hsp
  refine ⟨sp,ns',rfl,q01,by rw [hp.length_eq]; exact l20,λpp H5 hpp acc5=>?_⟩
  obtain ⟨s5,bs,ebs,tbs⟩:=acc5
  have s05:=s03.trans' (s4.trans' s5)
  have s35:=s4.trans' s5
  refine ⟨pp,rfl,⟨_,SqL.of ebs⟩,?_⟩
  have lt:∀ i j a b,i < j->ns'[i]? = some a->ns'[j]? = some b->a < b:=λi j a b hij ha hb=>by
   obtain ⟨li,ei⟩:=List.getElem?_eq_some_iff.mp ha
   obtain ⟨lj,ej⟩:=List.getElem?_eq_some_iff.mp hb
   have h1:=List.pairwise_iff_getElem.mp hpw i j li lj hij
   have h2:=List.pairwise_iff_getElem.mp (hp.nodup_iff.mpr nd) i j li lj hij
   rw [ei,ej] at h1 h2
   omega
  have C12:(qw8 rs (q32 rs n) (q32 rs n).length).length<=600:=by
   have h1:=qH9 rs (q32 rs n) (q32 rs n).length
   have h2:(q32 rs n).length * (q32 rs n).length<=12 * 12:=Nat.mul_le_mul (Nat.le_trans (qd2 rs n) n12) (Nat.le_trans (qd2 rs n) n12)
   omega
  refine q62 (K:=K) (a:=pp) (xs:=bs.map V.ref) (λi σ H6=>∃ v4 v5,σ=[some (.ref t),some (.ref nl),some (.ref lw),some (.ref cx),v4,v5]/\Same H5 H6/\∀ key∈(prs ns' ns'.length).take i,key∈qw8 rs (q32 rs n) (q32 rs n).length) ⟨_,_,rfl,Same.refl _,(λkey h=>by cases h)⟩ (λi σ H6 _ ⟨_,_,_,s6,_⟩=>SqL.of (s6 _ _ ebs)) ?_ ?_
  ·rintro i y σ H6 hi ⟨v4,v5,rfl,s6,ck⟩
   obtain ⟨r1,key,rfl,ek,er⟩:=(tbs.mono s6).item hi
   obtain ⟨i0,j0,a,b,ij,ha,hb,rfl⟩:=prs_mem (List.mem_of_getElem? ek)
   have ab:=lt i0 j0 a b ij ha hb
   have ma:a∈ns:=hp.mem_iff.mp (List.mem_of_getElem? ha)
   have mb:b∈ns:=hp.mem_iff.mp (List.mem_of_getElem? hb)
   refine ⟨r1,_,rfl,SqT.of er,rfl,_,_,rfl,_,_,rfl,rfl,?_⟩
   refine ⟨_,rfl,_,rfl,q22 (show 2<=100 by decide),λT2 hT2=>?_⟩
   have s7:=Same.new (o:=.tup [.int a,.int b]) hT2
   have s37:=s35.trans' (s6.trans' s7)
   refine ⟨_,rfl,cx,_,(qw8 rs (q32 rs n) (q32 rs n).length).map dtT,dtT (pkI a b),rfl,SqL.of (s37 _ _ eas),by rw [List.length_map,List.length_map]; exact tas.1,qV0 q01 (show (2:Nat)<=5000 by decide),λi x d h1 h2=>?_,_,rfl,?_⟩
   ·obtain ⟨r2,k2',rfl,ek2,er2⟩:=(tas.mono s37).item h1
    rw [List.getElem?_map,ek2] at h2
    cases h2
    have m2:=List.mem_of_getElem? ek2
    refine ⟨qV0 er2 (qV8 m2),?_⟩
    have:=qs9 [k2']
    have e:Dt.deep.deeps ([k2'].map dtT)=max (dtT k2').deep 0:=rfl
    rw [e] at this
    omega
   ·show if (!((qw8 rs (q32 rs n) (q32 rs n).length).map dtT).any λc=>c.pyq (dtT (pkI a b)))=true then _ else _
    have any_iff:(((qw8 rs (q32 rs n) (q32 rs n).length).map dtT).any λc=>c.pyq (dtT (pkI a b)))=true↔pkI a b∈qw8 rs (q32 rs n) (q32 rs n).length:=by
     rw [List.any_eq_true]
     constructor
     ·rintro ⟨c,hc,e⟩
      obtain ⟨kk,hk,rfl⟩:=List.mem_map.mp hc
      obtain ⟨a1,h1,h3⟩:=List.mem_flatMap.mp hk
      obtain ⟨d1,h2,h3⟩:=List.mem_flatMap.mp h3
      unfold crF at h3
      split at h3
      ·rw [List.mem_singleton.mp h3] at e hk
       have e:(dtT (pkI a1 ((a1 + 1 + d1:Nat):Int))).pyq (dtT (pkI a b))=true:=e
       rw [pyq_pk,Bool.and_eq_true,decide_eq_true_iff,decide_eq_true_iff] at e
       rw [<- e.1,<- e.2]
       exact hk
      ·cases h3
     ·intro h
      exact ⟨dtT (pkI a b),List.mem_map.mpr ⟨_,h,rfl⟩,qu7 _⟩
    cases ca:(((qw8 rs (q32 rs n) (q32 rs n).length).map dtT).any λc=>c.pyq (dtT (pkI a b))) with
    | false =>
     have no:¬ pkI a b∈qw8 rs (q32 rs n) (q32 rs n).length:=λw=>by rw [any_iff.mpr w] at ca; cases ca
     refine q48 ⟨_,rfl,_,rfl,q22 (show 3<=100 by decide),λrp hrp=>?_⟩
     have h0:rs≠[]:=λw=>by
      have:=(rng a ma).1
      have:=(rng a ma).2.1
      have:=qe9 (rs:=rs) (n:=n) (z:=a) (by omega) (by omega)
      have:=(op_iff.mp this.2.1).1
      rw [w] at this
      obtain ⟨_,hx,_⟩:=this
      cases hx
     refine k4 du h0 rp _ (s05.trans' (s6.trans' (s7.trans' (Same.new hrp)))) (.inr ⟨a,b,q01,ma,mb,ab,?_⟩)
     cases cc:crB rs (qf9 rs n a) (qf9 rs n b) with
     | false=>rfl
     | true =>
      exfalso
      refine no ?_
      obtain ⟨ka,rfl⟩:∃ k:Nat,a=k:=⟨a.toNat,by have:=(rng a ma).1; omega⟩
      obtain ⟨kb,rfl⟩:∃ k:Nat,b=k:=⟨b.toNat,by have:=(rng b mb).1; omega⟩
      have:=(rng (kb:Int) mb).2.1
      exact cros_iff.mpr ⟨by omega,by omega,cc⟩
    | true =>
     refine q30 ⟨_,_,rfl,s6.trans' s7,λkey hk=>?_⟩
     rw [List.take_add_one,ek] at hk
     rcases List.mem_append.mp hk with hk | hk
     ·exact ck key hk
     ·rw [List.mem_singleton.mp hk]; exact any_iff.mp ca
  rintro σ H6 ⟨v4,v5,rfl,s6,ck⟩
  rw [List.length_map,tbs.1,List.take_length] at ck
  have allc:∀ a∈ns,∀ b∈ns,a=b∨Cr rs (qf9 rs n a) (qf9 rs n b):=by
   have go:∀ a∈ns,∀ b∈ns,∀ i j,i < j->ns'[i]? = some a->ns'[j]? = some b->Cr rs (qf9 rs n a) (qf9 rs n b):=λa ma b mb i j hij ha hb=>by
    have h:=ck _ (mem_prs hij ha hb)
    obtain ⟨ka,rfl⟩:∃ k:Nat,a=k:=⟨a.toNat,by have:=(rng a ma).1; omega⟩
    obtain ⟨kb,rfl⟩:∃ k:Nat,b=k:=⟨b.toNat,by have:=(rng b mb).1; omega⟩
    exact crB_iff.mp (cros_iff.mp h).2.2
   intro a ma b mb
   obtain ⟨i,hi⟩:=List.mem_iff_getElem?.mp (hp.mem_iff.mpr ma)
   obtain ⟨j,hj⟩:=List.mem_iff_getElem?.mp (hp.mem_iff.mpr mb)
   by_cases e:i=j
   ·subst e
    rw [hi] at hj
    cases hj
    exact .inl rfl
   ·by_cases l:i < j
    ·exact .inr (go a ma b mb i j l hi hj)
    ·exact .inr (go b mb a ma j i (by omega) hj hi).symm
  have s06:=s05.trans' s6
  have e6:=(s2.trans' (s3.trans' (s35.trans' s6))) _ _ e1
  refine ⟨_,rfl,_,rfl,nl,rfl,⟨_,SqL.of (s06 _ _ en)⟩,λlb hlb=>?_⟩
  refine q57 (K:=K) (a:=nl) (xs:=ns.map V.int) (λj σ H7=>∃ v,σ=[v,some (.ref t),some (.ref lw)]/\Same H6 H7/\H7 lb=some (.lst (((ns.take j).map λz=>lvT rs n (qf9 rs n z)).map V.str))) ⟨none,rfl,Same.new hlb,q01⟩ (λi σ H7 _ ⟨_,_,s7,_⟩=>SqL.of (s7 _ _ (s06 _ _ en))) ?_ ?_
  ·rintro j y σ H7 hj ⟨v,rfl,s7,e7⟩
   rw [List.getElem?_map] at hj
   cases zj:ns[j]? with
   | none=>rw [zj] at hj; cases hj
   | some z =>
    rw [zj] at hj
    cases hj
    have mz:=List.mem_of_getElem? zj
    have r0:=(rng z mz).1
    have r1:=(rng z mz).2.1
    refine q34 ⟨_,rfl,_,rfl,_,rfl,lw,_,_,_,rfl,rfl,SqL.of (s7 _ _ e6),(qS6 r0 r1).1,t,dx,kp,bt,n,m,rs,qf9 rs n z,rfl,tab.mono (s06.trans' s7),(qe9 r0 r1).1,n12,λH8 s8=>?_⟩
    refine ⟨_,s8 _ _ e7,?_,_,rfl,Same.grow hlb (s7.trans' s8),?_⟩
    ·rw [List.length_map,List.length_map,List.length_take]
     exact Nat.lt_of_le_of_lt (show _<=20 by omega) (by decide)
    ·rw [q01,List.take_add_one,zj,List.map_append,List.map_append]
     rfl
  rintro σ H7 ⟨v,rfl,s7,e7⟩
  rw [List.length_map,List.take_length] at e7
  have s07:=s06.trans' s7
  have pats:∀ x∈ns.map λz=>lvT rs n (qf9 rs n z),Pat n x:=λx hx=>by
   obtain ⟨z,_,rfl⟩:=List.mem_map.mp hx
   exact lv_pat rs n _
  refine ⟨t,dx,kp,bt,lb,n,m,rs,_,rfl,tab.mono s07,e7,(λx hx=>by rw [(pats x hx).len]; omega),by rw [List.length_map]; omega,n1,n12,hrs,λ⟨x,hx,np⟩=>absurd (pats x hx) np,λ_ h0=>(k3 du h0).same s07,λ_ h0 p H8 s8 mt=>k4 du h0 p H8 (s07.trans' s8) ?_⟩
  rcases mt with ⟨z,ez,rz,bz,mz⟩ | ⟨i,j,x,y,_,ij,hx,hy,cl⟩
  ·refine .inl ⟨z,ez,qL2 hrs rz bz (λq hq=>?_) (λq hq i hi ne=>?_),allc⟩
   ·obtain ⟨a,ha,rfl⟩:=List.mem_map.mp hq
    have:=qe9 (rs:=rs) (n:=n) (rng a ha).1 (rng a ha).2.1
    exact ⟨this.1,this.2.1⟩
   ·obtain ⟨a,ha,rfl⟩:=List.mem_map.mp hq
    exact mz _ (List.mem_map.mpr ⟨a,ha,rfl⟩) i hi ne
  ·exfalso
   rw [List.getElem?_map] at hx hy
   cases zi:ns[i]? with
   | none=>rw [zi] at hx; cases hx
   | some a =>
    cases zj:ns[j]? with
    | none=>rw [zj] at hy; cases hy
    | some b =>
     rw [zi] at hx
     rw [zj] at hy
     cases hx
     cases hy
     have ma:=List.mem_of_getElem? zi
     have mb:=List.mem_of_getElem? zj
     rcases allc a ma b mb with e | e
     ·subst e
      have lo:=qe9 (rs:=rs) (n:=n) (rng a ma).1 (rng a ma).2.1
      obtain ⟨r1,r2,h1,h2,n1',n2',z⟩:=cl
      exact absurd z (Nat.ne_of_gt (qS4 hrs lo.1 lo.2.1 r1 r2 h1 h2 n1' n2'))
     ·exact lv_meet hrs e cl
end
abbrev q96:Stmt:=top 69
abbrev qo1:Stmt:=top 73
def LIs (H:Hp)(p:Addr)(b:Nat)(ns:List Int):Prop:=∃ cs:List Addr,H p=some (.lst (cs.map V.ref))/\cs.length<=b/\∀ c∈cs,c≠p/\∃ l:List Int,H c=some (.lst (l.map V.int))/\(∀ z∈l,z∈ns)/\l.length<=20
theorem LIs.mono {H H':Hp}{p:Addr}{b:Nat}{ns:List Int}(h:LIs H p b ns)(s:Same H H'):LIs H' p b ns:=by
 obtain ⟨cs,e,l,g⟩:=h
 exact ⟨cs,s _ _ e,l,λc hc=>let ⟨ne,l,e,r⟩:=g c hc; ⟨ne,l,s _ _ e,r⟩⟩
theorem LIs.put {H:Hp}{p d:Addr}{b:Nat}{ns l:List Int}(h:LIs H p b ns)(hd:H d=some (.lst (l.map V.int)))(dp:d≠p)(hs:∀ z∈l,z∈ns)(hl:l.length<=20):∃ ys,H p=some (.lst ys)/\ys.length<=b/\LIs (upd H p (.lst (ys ++ [.ref d]))) p (b + 1) ns:=by
 obtain ⟨cs,e,lc,g⟩:=h
 refine ⟨_,e,by rw [List.length_map]; exact lc,cs ++ [d],by rw [q01,List.map_append]; rfl,by rw [List.length_append]; exact Nat.add_le_add_right lc 1,λc hc=>?_⟩
 rcases List.mem_append.mp hc with hc | hc
 ·obtain ⟨ne,l',e',r⟩:=g c hc
  exact ⟨ne,l',by rw [q07 ne]; exact e',r⟩
 ·rw [List.mem_singleton.mp hc]
  exact ⟨dp,l,by rw [q07 dp]; exact hd,hs,hl⟩
theorem LIs.cat {H:Hp}{p q r:Addr}{b b':Nat}{ns:List Int}(h:LIs H p b ns)(h':LIs H q b' ns)(hr:H r=none):∃ xs ys,H p=some (.lst xs)/\H q=some (.lst ys)/\xs.length<=b/\ys.length<=b'/\LIs (upd H r (.lst (xs ++ ys))) r (b + b') ns:=by
 obtain ⟨cs,e,lc,g⟩:=h
 obtain ⟨cs',e',lc',g'⟩:=h'
 refine ⟨_,_,e,e',by rw [List.length_map]; exact lc,by rw [List.length_map]; exact lc',cs ++ cs',by rw [q01,List.map_append],by rw [List.length_append]; exact Nat.add_le_add lc lc',λc hc=>?_⟩
 have go:∀ l:List Int,H c=some (.lst (l.map V.int))->c≠r/\upd H r (.lst (cs.map V.ref ++ cs'.map V.ref)) c=some (.lst (l.map V.int)):=λl e=>by
  have ne:c≠r:=λw=>by rw [w,hr] at e; cases e
  exact ⟨ne,by rw [q07 ne]; exact e⟩
 rcases List.mem_append.mp hc with hc | hc
 ·obtain ⟨_,l,e1,r1⟩:=g c hc
  exact ⟨(go l e1).1,l,(go l e1).2,r1⟩
 ·obtain ⟨_,l,e1,r1⟩:=g' c hc
  exact ⟨(go l e1).1,l,(go l e1).2,r1⟩
section
variable {P:Program}{w:World}{K:PySem.W.Frag}{mg:Str->Option Value}{base:Heap}
def qO3:Sp:=λvs H Q _=>∃(a:Addr) (xs:List Int),vs=[.ref a]/\H a=some (.lst (xs.map V.int))/\xs.length<=5/\∀ p H',Same H H'->LIs H' p 32 xs->Q (.ref p) H'
abbrev N_ch:List Str:=["_law_things", "_law_found", "_law_thing"]
abbrev P_ch:List Str:=["_law_things"]
theorem sc_ch:FnScope N_ch P_ch (q02 q96):=⟨rfl,rfl,rfl,by decide +kernel,rfl,by decide +kernel,by decide +kernel⟩
abbrev N_ch1:List Str:=["_law_one", "_law_thing"]
theorem nd_ch1:N_ch1.Nodup:=by decide +kernel
theorem qK2 {f:Addr}{fd:FuncData}(D:Df K mg "_law_choices" q96 P_ch f fd) (B:Bt mg):FnOk P w K mg base (CXE P w) 1 f fd P_ch qO3:=by
 refine D.F.okN sc_ch (λvs H Q E h=>?_) (λcdv A outer s H vs Q E hr h=>?_)
 ·obtain ⟨a,xs,rfl,_⟩:=h
  rfl
 ·obtain ⟨a,xs,rfl,ea,l5,k⟩:=h
  refine ⟨_,q04 (q18 (i:=1) sc_ch.nd rfl (Or.inl rfl) (q42 (q00 (q42 q03) q03)))
   (q04 (q36 PassesOwn.never rfl (q27 (pv 0)) (q09 (i:=2) sc_ch.nd rfl (Or.inr rfl))
   (q05 (q18 (i:=1) sc_ch.nd rfl (Or.inl rfl) (q24 qz6 (pv 1) (q38 (N':=N_ch1) (fm:=[none,some 2]) rfl ⟨rfl,by decide +kernel,by decide +kernel,rfl,rfl,rfl⟩ (q27 (pv 1)) (λ_ _ _ _=>(q09 (i:=0) nd_ch1 rfl (Or.inl rfl))) (λ_ _ _ _=>q35) (λ_ _ _ _=>(q24 qz6 (pv 0) (q42 (q00 (pv 1) q03)))))))))
   (q05 (q13 (pv 1)))),?_⟩
  refine ⟨q22 (show 0<=100 by decide),λp0 hp0=>⟨q22 (show 1<=100 by decide),λq0 hq0=>?_⟩⟩
  have s0:=(Same.new (o:=.lst []) hp0).trans' (Same.new (o:=.lst [.ref p0]) hq0)
  have ne0:p0≠q0:=λw=>by rw [<- w,q01] at hq0; cases hq0
  have e00:=Same.new (o:=.lst [.ref p0]) hq0 _ _ (q01 (H:=H) (a:=p0) (o:=.lst []))
  have e01:upd (upd H p0 (.lst [])) q0 (.lst [.ref p0]) q0=some (.lst [.ref p0]):=q01
  generalize upd (upd H p0 (.lst [])) q0 (.lst [.ref p0])=H0 at *
  refine ⟨_,rfl,a,rfl,⟨_,SqL.of (s0 _ _ ea)⟩,q62 (K:=K) (a:=a) (xs:=xs.map V.int) (λi σ H2=>∃ p v,σ=[some (.ref a),some (.ref p),v]/\Same H H2/\∃ cs:List Addr,H2 p=some (.lst (cs.map V.ref))/\cs.length<=2 ^ i/\∀ c∈cs,c≠p/\∃ l:List Int,H2 c=some (.lst (l.map V.int))/\(∀ z∈l,z∈xs)/\l.length<=i) ⟨q0,_,rfl,s0,[p0],e01,Nat.le_refl _,λc hc=>?_⟩ (λi σ H2 _ ⟨_,_,_,s2,_⟩=>SqL.of (s2 _ _ ea)) ?_ ?_⟩
  ·rw [List.mem_singleton.mp hc]
   exact ⟨ne0,[],e00,(λz h=>by cases h),Nat.le_refl _⟩
  ·rintro i y σ H2 hi ⟨p,v,rfl,s2,cs,e2,lc,g2⟩
   rw [List.getElem?_map] at hi
   cases zi:xs[i]? with
   | none=>rw [zi] at hi; cases hi
   | some t =>
    rw [zi] at hi
    cases hi
    have il:=(List.getElem?_eq_some_iff.mp zi).1
    have mt:=List.mem_of_getElem? zi
    have L:2 ^ i<=32:=Nat.le_trans (Nat.pow_le_pow_right (by decide) (show i<=5 by omega)) (by decide)
    refine ⟨_,rfl,_,rfl,p,rfl,⟨_,SqL.of e2⟩,λlb hlb=>?_⟩
    refine q57 (K:=K) (a:=p) (xs:=cs.map V.ref) (λj σ H4=>∃ v ds,σ=[v,some (.int t)]/\Same H2 H4/\H4 lb=some (.lst ((ds:List Addr).map V.ref))/\ds.length=j/\∀ d∈ds,d≠lb/\∃ l:List Int,H4 d=some (.lst (l.map V.int))/\(∀ z∈l,z∈xs)/\l.length<=i + 1) ⟨none,[],rfl,Same.new hlb,q01,rfl,λd h=>by cases h⟩ (λi σ H4 _ ⟨_,_,_,s4,_⟩=>SqL.of (s4 _ _ e2)) ?_ ?_
    ·rintro j y σ H4 hj ⟨v,ds,rfl,s4,e4,l4,g4⟩
     rw [List.getElem?_map] at hj
     cases zj:cs[j]? with
     | none=>rw [zj] at hj; cases hj
     | some c =>
      rw [zj] at hj
      cases hj
      have jl:=(List.getElem?_eq_some_iff.mp zj).1
      obtain ⟨_,l0,ec,sub,ll⟩:=g2 c (List.mem_of_getElem? zj)
      have ec:=s4 _ _ ec
      refine q34 ⟨_,rfl,_,rfl,q22 (show 1<=100 by decide),λb hb=>⟨c,b,_,_,rfl,rfl,Same.new hb _ _ ec,q01,?_,λd hd=>⟨_,Same.new hd _ _ (Same.new hb _ _ e4),?_,_,ds ++ [d],rfl,?_,?_,?_,λd' hd'=>?_⟩⟩⟩
      ·rw [List.length_map]
       exact q22 (show l0.length + 1<=100 by omega)
      ·rw [List.length_map,l4]
       exact Nat.lt_of_le_of_lt (show j<=32 by omega) (by decide)
      ·exact Same.grow hlb (s4.trans' ((Same.new hb).trans' (Same.new hd)))
      ·rw [q01,List.map_append]; rfl
      ·rw [List.length_append,l4]; rfl
      ·have dn:d≠lb:=λw=>by rw [w,Same.new hb _ _ e4] at hd; cases hd
       rcases List.mem_append.mp hd' with h | h
       ·obtain ⟨ne,l',e',r'⟩:=g4 d' h
        exact ⟨ne,l',by rw [q07 ne]; exact Same.new hd _ _ (Same.new hb _ _ e'),r'⟩
       ·rw [List.mem_singleton.mp h]
        refine ⟨dn,l0 ++ [t],by rw [q07 dn,q01,List.map_append]; rfl,λz hz=>?_,by rw [List.length_append]; exact Nat.add_le_add_right ll 1⟩
        rcases List.mem_append.mp hz with hz | hz
        ·exact sub z hz
        ·rw [List.mem_singleton.mp hz]; exact mt
    rintro σ H4 ⟨v,ds,rfl,s4,e4,l4,g4⟩
    rw [List.length_map] at l4
    refine ⟨p,lb,_,_,rfl,rfl,s4 _ _ e2,e4,?_,λr hr'=>⟨r,_,rfl,s2.trans' (s4.trans' (Same.new hr')),cs ++ ds,?_,?_,λc hc=>?_⟩⟩
    ·rw [List.length_map,List.length_map,sizeLine_eq]
     omega
    ·rw [q01,List.map_append]
    ·rw [List.length_append,Nat.pow_succ]
     omega
    ·have nr:∀ l:List Int,H4 c=some (.lst (l.map V.int))->c≠r:=λl e w=>by rw [w,hr'] at e; cases e
     rcases List.mem_append.mp hc with hc | hc
     ·obtain ⟨_,l,e,sub,ll⟩:=g2 c hc
      exact ⟨nr l (s4 _ _ e),l,by rw [q07 (nr l (s4 _ _ e))]; exact s4 _ _ e,sub,by omega⟩
     ·obtain ⟨_,l,e,sub,ll⟩:=g4 c hc
      exact ⟨nr l e,l,by rw [q07 (nr l e)]; exact e,sub,ll⟩
  ·rintro σ H2 ⟨p,v,rfl,s2,cs,e2,lc,g2⟩
   rw [List.length_map] at lc g2
   exact ⟨_,rfl,k p H2 s2 ⟨cs,e2,Nat.le_trans lc (Nat.le_trans (Nat.pow_le_pow_right (by decide) l5) (by decide)),λc hc=>let ⟨ne,l,e,sub,ll⟩:=g2 c hc; ⟨ne,l,e,sub,by omega⟩⟩⟩
def z65:Sp:=λvs H Q _=>∃(a:Addr) (ns:List Int),vs=[.ref a]/\H a=some (.lst (ns.map V.int))/\ns.length<=20/\∀ p H',Same H H'->LIs H' p 1000 ns->Q (.ref p) H'
abbrev N_so:List Str:=["_law_numbers_here", "_law_found", "_law_k"]
abbrev P_so:List Str:=["_law_numbers_here"]
theorem sc_so:FnScope N_so P_so (q02 qo1):=⟨rfl,rfl,rfl,by decide +kernel,rfl,by decide +kernel,by decide +kernel⟩
abbrev N_so1:List Str:=["_law_m", "_law_numbers_here", "_law_k"]
theorem nd_so1:N_so1.Nodup:=by decide +kernel
theorem ok_some {f fc:Addr}{fd gc:FuncData}(D:Df K mg "_law_some_choices" qo1 P_so f fd) (Dc:Df K mg "_law_choices" q96 P_ch fc gc) (B:Bt mg):FnOk P w K mg base (CXE P w) 2 f fd P_so z65:=by
 refine D.F.okN sc_so (λvs H Q E h=>?_) (λcdv A outer s H vs Q E hr h=>?_)
 ·obtain ⟨a,ns,rfl,_⟩:=h
  rfl
 ·obtain ⟨a,ns,rfl,ea,l20,k⟩:=h
  refine ⟨_,q04 (q41 (q11 qk4 (q12 q20 (by rfl) B.len PySem.boot_len (q00 (pv 0) q03)) q06 (q14 _)) (q05 (q13 (q23 Dc (qK2 Dc B) (hr.mono (by decide)) q19 (q00 (pv 0) q03)))) q21)
   (q04 (q18 (i:=1) sc_so.nd rfl (Or.inl rfl) (q42 (q00 (qb4 qm3 (by rfl) B.list (by rfl) (q00 (pv 0) q03)) q03)))
   (q04 (q36 PassesOwn.never rfl (q31 (by rfl) B.range (q00 (q12 q20 (by rfl) B.len PySem.boot_len (q00 (pv 0) q03)) q03)) (q09 (i:=2) sc_so.nd rfl (Or.inr rfl))
   (q04 (q26 (qk1 PySem.F.plainAttrs_list PySem.F.slot_list_append PySem.F.type_list_append q45 (pv 1) (q00 (q42 (q00 (q25 ix_list (pv 0) (pv 2) (λ_ _=>rfl)) q03)) q03)))
   (q04 (q26 (qk1 PySem.F.plainAttrs_list PySem.F.slot_list_append PySem.F.type_list_append q45 (pv 1) (q00 (q24 qz6 (q56 qe2 (pv 0) q76 (q75 (pv 2))) (q56 qe2 (pv 0) (q75 (q24 q46 (pv 2) q06)) q76)) q03)))
   (q05 (q18 (i:=1) sc_so.nd rfl (Or.inl rfl) (q24 qz6 (pv 1) (q38 (N':=N_so1) (fm:=[none,some 0,some 2]) rfl ⟨rfl,by decide +kernel,by decide +kernel,rfl,rfl,rfl⟩ (q31 (by rfl) B.range (q00 (pv 2) q03)) (λ_ _ _ _=>(q09 (i:=0) nd_so1 rfl (Or.inl rfl))) (λ_ _ _ _=>q35) (λ_ _ _ _=>(q42 (q00 (q25 (r:=qP4 K) ix_list (pv 1) (pv 2) (λ_ _=>rfl)) (q00 (q25 (r:=qP4 K) ix_list (pv 1) (pv 0) (λ_ _=>rfl)) q03)))))))))))
   (q05 (q13 (pv 1))))),?_⟩
  refine ⟨_,rfl,a,_,rfl,.inl (SqL.of ea),_,_,rfl,rfl,_,rfl,?_⟩
  show if decide ((((ns.map V.int).length:Nat):Int) < 6)=true then _ else _
  rw [List.length_map]
  by_cases c6:ns.length < 6
  ·rw [decide_eq_true (by omega)]
   exact q48 ⟨_,rfl,a,ns,rfl,ea,by omega,λp H' s' h=>k p H' s' (by obtain ⟨cs,e,l,g⟩:=h; exact ⟨cs,e,by omega,g⟩)⟩
  rw [decide_eq_false (by omega)]
  refine q30 ?_
  refine ⟨_,rfl,a,_,rfl,.inl (SqL.of ea),λc0 hc0=>⟨q22 (show 1<=100 by decide),λp0 hp0=>?_⟩⟩
  have s0:=(Same.new (o:=.lst (ns.map V.int)) hc0).trans' (Same.new (o:=.lst [.ref c0]) hp0)
  have ne0:c0≠p0:=λw=>by rw [<- w,q01] at hp0; cases hp0
  have e00:=Same.new (o:=.lst [.ref c0]) hp0 _ _ (q01 (H:=H) (a:=c0) (o:=.lst (ns.map V.int)))
  have e01:upd (upd H c0 (.lst (ns.map V.int))) p0 (.lst [.ref c0]) p0=some (.lst [.ref c0]):=q01
  have hp0':H p0=none:=by rw [q07 (Ne.symm ne0)] at hp0; exact hp0
  generalize upd (upd H c0 (.lst (ns.map V.int))) p0 (.lst [.ref c0])=H0 at *
  refine ⟨_,rfl,a,_,rfl,.inl (SqL.of (s0 _ _ ea)),_,rfl,by omega,by rw [List.length_map]; omega,?_⟩
  have en:(((ns.map V.int).length:Nat):Int).toNat=ns.length:=by rw [List.length_map]; omega
  rw [en]
  refine q49 (λi σ H2=>∃(p:Addr) (v2:Option V),σ=[some (.ref a),some (.ref p),v2]/\Same H H2/\H p=none/\LIs H2 p (1 + 22 * i) ns) ⟨p0,_,rfl,s0,hp0',[c0],e01,Nat.le_refl _,λc hc=>?_⟩ ?_ ?_
  ·rw [List.mem_singleton.mp hc]
   exact ⟨ne0,ns,e00,(λz h=>h),l20⟩
  ·rintro i σ H2 hi ⟨p,v2,rfl,s2,hp,L2'⟩
   rw [Int.zero_add]
   have ea2:=s2 _ _ ea
   obtain ⟨z,zi⟩:∃ z,ns[i]? = some z:=⟨_,List.getElem?_eq_getElem hi⟩
   have mz:=List.mem_of_getElem? zi
   have az:atI (ns.map V.int) (i:Int)=some (.int z):=q43 (by rw [List.getElem?_map,zi]; rfl)
   have bd:1 + 22 * i<=500:=by omega
   obtain ⟨cs0,ecs0,_⟩:=id L2'
   refine ⟨_,rfl,.inl ⟨rfl,_,SqL.of ecs0⟩,_,rfl,_,rfl,a,_,_,_,rfl,rfl,SqL.of ea2,az,q22 (show 1<=100 by decide),λd hd=>?_⟩
   have L3:=L2'.mono (Same.new (o:=.lst [.int z]) hd)
   have dp:d≠p:=λw=>by rw [w,ecs0] at hd; cases hd
   obtain ⟨ys,y1,y2,L3⟩:=L3.put (l:=[z]) q01 dp (λu hu=>by rw [List.mem_singleton.mp hu]; exact mz) (show (1:Nat)<=20 by decide)
   refine ⟨p,ys,_,rfl,rfl,y1,Nat.lt_of_le_of_lt (show _<=500 by omega) (by decide),?_⟩
   have s3:Same H (upd (upd H2 d (.lst [.int z])) p (.lst (ys ++ [.ref d]))):=Same.grow hp (s2.trans' (Same.new (o:=.lst [.int z]) hd))
   generalize upd (upd H2 d (.lst [.int z])) p (.lst (ys ++ [.ref d]))=H3 at *
   clear y1 y2 ecs0
   have ea3:=s3 _ _ ea
   obtain ⟨cs1,ecs1,_⟩:=id L3
   have eA:ql0 (ns.map V.int) none (some (i:Int))=(ns.take i).map V.int:=by rw [qV7,<- List.map_take]
   have eB:ql0 (ns.map V.int) (some ((i:Int) + 1)) none=(ns.drop (i + 1)).map V.int:=by rw [show (i:Int) + 1=((i + 1:Nat):Int) by omega,qH7,<- List.map_drop]
   refine ⟨_,rfl,.inl ⟨rfl,_,SqL.of ecs1⟩,_,rfl,_,rfl,_,rfl,a,_,rfl,SqL.of ea3,λc1 hc1=>?_⟩
   rw [eA]
   have t1:=Same.new (o:=.lst ((ns.take i).map V.int)) hc1
   refine ⟨_,rfl,_,rfl,_,_,rfl,rfl,_,rfl,a,_,rfl,SqL.of (t1 _ _ ea3),λc2 hc2=>?_⟩
   rw [eB]
   have t2:=Same.new (o:=.lst ((ns.drop (i + 1)).map V.int)) hc2
   refine ⟨c1,c2,_,_,rfl,rfl,t2 _ _ q01,q01,?_,λd2 hd2=>?_⟩
   ·rw [List.length_map,List.length_map,List.length_take,List.length_drop]
    exact q22 (show _<=100 by omega)
   rw [<- List.map_append]
   have t3:=Same.new (o:=.lst ((ns.take i ++ ns.drop (i + 1)).map V.int)) hd2
   have t13:=t1.trans' (t2.trans' t3)
   have dp2:d2≠p:=λw=>by rw [w,t2 _ _ (t1 _ _ ecs1)] at hd2; cases hd2
   obtain ⟨ys,y1,y2,L4⟩:=(L3.mono t13).put (l:=ns.take i ++ ns.drop (i + 1)) q01 dp2 (λu hu=>by
    rcases List.mem_append.mp hu with hu | hu
    ·exact List.mem_of_mem_take hu
    ·exact List.mem_of_mem_drop hu) (by rw [List.length_append,List.length_take,List.length_drop]; omega)
   refine ⟨p,ys,_,rfl,rfl,y1,Nat.lt_of_le_of_lt (show _<=600 by omega) (by decide),?_⟩
   have s4:Same H (upd (upd (upd (upd H3 c1 (.lst ((ns.take i).map V.int))) c2 (.lst ((ns.drop (i + 1)).map V.int))) d2 (.lst ((ns.take i ++ ns.drop (i + 1)).map V.int))) p (.lst (ys ++ [.ref d2]))):=Same.grow hp (s3.trans' t13)
   generalize upd (upd (upd (upd H3 c1 (.lst ((ns.take i).map V.int))) c2 (.lst ((ns.drop (i + 1)).map V.int))) d2 (.lst ((ns.take i ++ ns.drop (i + 1)).map V.int))) p (.lst (ys ++ [.ref d2]))=H4 at *
   clear y1 y2 t1 t2 t3 t13 hc1 hc2 hd2 ecs1 L3 s3 ea3
   have ea4:=s4 _ _ ea
   refine ⟨_,rfl,_,rfl,_,rfl,by omega,by omega,λlb hlb=>?_⟩
   have eni:((i:Nat):Int).toNat=i:=by omega
   rw [eni]
   have plb:p≠lb:=λw=>by obtain ⟨cs,e,_⟩:=L4; rw [w,hlb] at e; cases e
   refine q85 (λj σ H5=>∃ v,σ=[v,some (.ref a),some (.int i)]/\Same H4 H5/\LIs H5 lb j ns) ⟨none,rfl,Same.new hlb,[],q01,Nat.le_refl _,(λc h=>by cases h)⟩ ?_ ?_
   ·rintro j σ H5 hj ⟨v,rfl,s5,L5⟩
    rw [Int.zero_add]
    obtain ⟨u,uj⟩:∃ u,ns[j]? = some u:=⟨_,List.getElem?_eq_getElem (by omega)⟩
    have mu:=List.mem_of_getElem? uj
    have au:atI (ns.map V.int) (j:Int)=some (.int u):=q43 (by rw [List.getElem?_map,uj]; rfl)
    have ea5:=s5 _ _ ea4
    refine q34 ⟨_,rfl,_,rfl,a,_,_,_,rfl,rfl,SqL.of ea5,az,_,rfl,_,rfl,a,_,_,_,rfl,rfl,SqL.of ea5,au,q22 (show 2<=100 by decide),λd hd=>?_⟩
    have dl:d≠lb:=λw=>by obtain ⟨cs,e,_⟩:=L5; rw [w,e] at hd; cases hd
    obtain ⟨ys,y1,y2,L6⟩:=(L5.mono (Same.new (o:=.lst [.int z,.int u]) hd)).put (l:=[z,u]) q01 dl (λx hx=>by
     rcases List.mem_cons.mp hx with rfl | hx
     ·exact mz
     ·rw [List.mem_singleton.mp hx]; exact mu) (show (2:Nat)<=20 by decide)
    exact ⟨ys,y1,Nat.lt_of_le_of_lt (show _<=600 by omega) (by decide),_,rfl,Same.grow hlb (s5.trans' (Same.new hd)),L6⟩
   rintro σ H5 ⟨v,rfl,s5,L5⟩
   obtain ⟨xs,e1⟩:∃ xs,H5 p=some (.lst xs):=by obtain ⟨cs,e,_⟩:=L4; exact ⟨_,s5 _ _ e⟩
   obtain ⟨ys',e2⟩:∃ xs,H5 lb=some (.lst xs):=by obtain ⟨cs,e,_⟩:=L5; exact ⟨_,e⟩
   have bx:xs.length<=1 + 22 * i + 1 + 1:=by
    obtain ⟨cs,e,l,_⟩:=L4
    have e:=s5 _ _ e
    rw [e1] at e
    cases e
    rw [List.length_map]
    exact l
   have by':ys'.length<=i:=by
    obtain ⟨cs,e,l,_⟩:=L5
    rw [e2] at e
    cases e
    rw [List.length_map]
    exact l
   refine ⟨p,lb,_,_,rfl,rfl,e1,e2,by rw [sizeLine_eq]; omega,λr hr'=>?_⟩
   obtain ⟨xs2,ys2,f1,f2,_,_,L7⟩:=(L4.mono s5).cat L5 hr'
   rw [e1] at f1
   rw [e2] at f2
   cases f1
   cases f2
   have hr0:H r=none:=by
    cases c:H r with
    | none=>rfl
    | some o=>rw [(s4.trans' s5) _ _ c] at hr'; cases hr'
   refine ⟨r,_,rfl,s4.trans' (s5.trans' (Same.new hr')),hr0,?_⟩
   obtain ⟨cs,e,l,g⟩:=L7
   exact ⟨cs,e,by omega,g⟩
  ·rintro σ H2 ⟨p,v2,rfl,s2,hp,L2'⟩
   exact ⟨_,rfl,k p H2 s2 (by obtain ⟨cs,e,l,g⟩:=L2'; exact ⟨cs,e,by omega,g⟩)⟩
end
abbrev qe3:Stmt:=top 74
structure Bx (mg:Str->Option Value):Prop where
 any:mg "any" = none
 max:mg "max" = none
theorem qh5 {H:Hp}{sh:Addr}{rs:List Str}{n:Nat}{z:Int}(hrs:∀ x∈rs,Row n x)(h:BunsAt H sh (bnl rs n))(h0:0<=z)(h1:z < ((q32 rs n).length:Nat)):∃(bs:List Addr) (b:Addr) (as:List Addr) (a0:Addr),H sh=some (.lst (bs.map V.ref))/\atI (bs.map V.ref) z=some (.ref b)/\H b=some (.lst (as.map V.ref))/\atI (as.map V.ref) 0=some (.ref a0)/\H a0=some (.tup [.int (qf9 rs n z),s1 121])/\Tups H as ((bun rs n (qf9 rs n z)).map skP):=by
 obtain ⟨bs,e,l,g⟩:=h
 obtain ⟨k,rfl⟩:∃ k:Nat,z=k:=⟨z.toNat,by omega⟩
 have lb:bs.length=(q32 rs n).length:=by rw [l]; unfold bnl; rw [List.length_map]
 have hk:k < bs.length:=by omega
 have eb:bs[k]? = some bs[k]:=List.getElem?_eq_getElem hk
 have lo:=(qS6 (rs:=rs) (n:=n) (z:=(k:Int)) h0 h1).2
 rw [show ((k:Int)).toNat=k by omega] at lo
 have el:(bnl rs n)[k]? = some (bun rs n (qf9 rs n k)):=by unfold bnl; rw [List.getElem?_map,lo]; rfl
 obtain ⟨as,e1,t1⟩:=g k _ _ eb el
 have ok:=qe9 (rs:=rs) (n:=n) (z:=(k:Int)) h0 h1
 obtain ⟨tl,ht⟩:=qI2 hrs ok.1 ok.2.2
 cases as with
 | nil=>rw [ht] at t1; exact absurd t1.1 (by simp)
 | cons a0 r =>
  refine ⟨bs,bs[k],a0 :: r,a0,e,q43 (by rw [List.getElem?_map,eb]; rfl),e1,(show atI _ ((0:Nat):Int)=_ from q43 rfl),?_,t1⟩
  have:=t1.2 0 a0 (skP (qf9 rs n k,121)) rfl (by rw [ht]; rfl)
  exact this
section
variable {P:Program}{w:World}{K:PySem.W.Frag}{mg:Str->Option Value}{base:Heap}{C fi fa ft fy fm fc:Addr}{gi ga gt gy gm gc:FuncData}{W BC BS fW fC fS:Addr}{gW gC gS:FuncData}
def qN9 (K:PySem.W.Frag):Sp:=λvs H Q _=>∃(p q sh nl:Addr) (n:Nat) (rs:List Str) (ns:List Int),vs=[.ref p,.ref q,.int n,.ref sh,.ref nl]/\FreeAt H p rs n ns/\H q=some (.lst (rs.map V.str))/\BunsAt H sh (bnl rs n)/\H nl=some (.lst (ns.map V.int))/\ns.length<=20/\(∀ z∈ns,0<=z/\z < ((q32 rs n).length:Nat))/\1<=n/\n<=12/\(∀ y∈rs,Row n y)/\∀ H',Same H H'->Q (.bl true) H'
abbrev N_ho:List Str:=["_law_found", "_law_rows_here", "_law_n", "_law_sheaves", "_law_numbers_here", "_law_row", "_law_chosen", "_law_fresh", "_law_number", "_law_low"]
abbrev P_ho:List Str:=["_law_found", "_law_rows_here", "_law_n", "_law_sheaves", "_law_numbers_here"]
theorem sc_ho:FnScope N_ho P_ho (q02 qe3):=⟨rfl,rfl,rfl,by decide +kernel,rfl,by decide +kernel,by decide +kernel⟩
abbrev N_ho1:List Str:=["_law_sign"]
theorem nd_ho1:N_ho1.Nodup:=by decide +kernel
abbrev N_ho2:List Str:=["_law_one", "_law_number"]
theorem nd_ho2:N_ho2.Nodup:=by decide +kernel
theorem z32 {f fe fs ft' fl fx:Addr}{fd ge gs gt' gl gx:FuncData}(D:Df K mg "_law_holds" qe3 P_ho f fd) (De:Df K mg "_law_same" ql6 Ps fe ge) (Ds:Df K mg "_law_some_choices" qo1 P_so fs gs) (Gs:FnOk P w K mg base (CXE P w) 2 fs gs P_so z65) (Dt:Df K mg "_law_turned" q94 P_lt ft' gt') (Gt:FnOk P w K mg base (CXE P w) 2 ft' gt' P_lt (qy4 K))
  (Dl:Df K mg "_law_lacks" qc5 Pll fl gl) (Gl:FnOk P w K mg base (CXE P w) 2 fl gl Pll (qE9 K)) (Dx:Df K mg "_law_cross" q51 P_lc fx gx) (Gx:FnOk P w K mg base (CXE P w) 2 fx gx P_lc (qt9 K)) (B:Bt mg) (Y:Bx mg):FnOk P w K mg base (CXE P w) 3 f fd P_ho (qN9 K):=by
 refine D.F.okN sc_ho (λvs H Q E h=>?_) (λcdv A outer s H vs Q E hr h=>?_)
 ·obtain ⟨p,q,sh,nl,n,rs,ns,rfl,_⟩:=h
  rfl
 ·obtain ⟨p,q,sh,nl,n,rs,ns,rfl,fr,eq,es,en,l20,rng,n1,n12,hrs,k⟩:=h
  have hu:(A.deeper (envOfC "_law_holds" (q02 qe3) s.heap.objs.size f cdv)).units < cLine:=by have:=hr.units; omega
  refine ⟨_,q04 (q41 (PW.pt (qh7 (qa7 (q52 (q12 q63 (by rfl) B.isi (by rfl) (q00 (pv 0) (q00 (q88 (by rfl) B.tuple (v:=.ty "tuple") (u:=.type "tuple") (by rfl) rfl) q03))))) (qb2 (q11 qk4 (q12 q20 (by rfl) B.len PySem.boot_len (q00 (pv 0) q03)) q06 (q14 _))))) (q05 (q13 qk2)) q21)
   (q04 (q41 (PW.pt (q72 (q52 (q23 De (qv6 De B 2) (hr.mono (by decide)) q19 (q00 (q25 ix_tup (pv 0) q06 (λ_ _=>rfl)) (q00 q15 q03)))) (q53 (q11 q58 (q12 q20 (by rfl) B.len PySem.boot_len (q00 (pv 0) q03)) q06 (q14 _))))) (q04 (q18 (i:=5) sc_ho.nd rfl (Or.inl rfl) (q25 ix_tup (pv 0) q06 (λ_ _=>rfl)))
   (q04 (q41 (PW.pt (qh7 (qa7 (q52 (q12 q63 (by rfl) B.isi (by rfl) (q00 (pv 5) (q00 (q88 (by rfl) B.str (v:=.ty "str") (u:=.type "str") (by rfl) rfl) q03))))) (qh7 (q11 qv5 (q12 q83 (by rfl) B.len PySem.boot_len (q00 (pv 5) q03)) (pv 2) (q14 _)) (qb2 (qa7 (q52 (q12 (q90 rfl) (by rfl) B.all (by rfl) (q00 (q38 (N':=N_ho1) (fm:=[none]) rfl ⟨rfl,by decide +kernel,by decide +kernel,rfl,rfl,rfl⟩ (qm2 (pv 5)) (λ_ _ _ _=>(q09 (i:=0) nd_ho1 rfl (Or.inl rfl))) (λ_ _ _ _=>q35) (λ_ _ _ _=>(q50 qp4 (pv 0) q15 (by rfl)))) q03)))))))) (q05 (q13 qk2)) q21)
   (q04 (q36 PassesOwn.never rfl (q27 (q23 Ds Gs (hr.mono (by decide)) q19 (q00 (pv 4) q03))) (q09 (i:=6) sc_ho.nd rfl (Or.inl rfl))
   (q04 (q18 (i:=7) sc_ho.nd rfl (Or.inl rfl) (pv 5))
   (q04 (q36 PassesOwn.never rfl (q27 (pv 6)) (q09 (i:=8) sc_ho.nd rfl (Or.inr rfl))
   (q05 (q18 (i:=7) sc_ho.nd rfl (Or.inl rfl) (q23 Dt Gt (hr.mono (by decide)) q19 (q00 (pv 7) (q00 (q25 ix_list (pv 3) (pv 8) (λ_ _=>rfl)) q03))))))
   (q05 (q41 (q11 (qn2 hu) (q23 Dl Gl (hr.mono (by decide)) q19 (q00 (pv 1) (q00 (pv 7) q03))) (q42 q03) (q14 _)) (q05 (q13 qk2)) q21)))))
   (q05 (q13 qk2))))) q21)
   (q04 (q41 (PW.pt (qh7 (qa7 (q52 (q23 De (qv6 De B 2) (hr.mono (by decide)) q19 (q00 (q25 ix_tup (pv 0) q06 (λ_ _=>rfl)) (q00 q15 q03))))) (qb2 (q11 qv5 (q12 q20 (by rfl) B.len PySem.boot_len (q00 (pv 0) q03)) q06 (q14 _))))) (q05 (q13 qk2)) q21)
   (q04 (q36 PassesOwn.never rfl (pi_tup (q56 sl_tup (pv 0) (q75 q06) q76)) (q09 (i:=8) sc_ho.nd rfl (Or.inr rfl))
   (q05 (q41 (qa7 (q52 (q12 (z57 rfl) (by rfl) Y.any (by rfl) (q00 (q38 (N':=N_ho2) (fm:=[none,some 8]) rfl ⟨rfl,by decide +kernel,by decide +kernel,rfl,rfl,rfl⟩ (q27 (pv 4)) (λ_ _ _ _=>(q09 (i:=0) nd_ho2 rfl (Or.inl rfl))) (λ_ _ _ _=>q35) (λ_ _ _ _=>(q23 De (qv6 De B 2) (hr.mono (by decide)) q19 (q00 (pv 1) (q00 (pv 0) q03))))) q03)))) (q05 (q13 qk2)) q21)))
   (q04 (q18 (i:=9) sc_ho.nd rfl (Or.inl rfl) (q25 ix_tup (q25 ix_list (q25 ix_list (pv 3) (q25 ix_tup (pv 0) q06 (λ_ _=>rfl)) (λ_ _=>rfl)) q06 (λ_ _=>rfl)) q06 (λ_ _=>rfl)))
   (q05 (q13 (qp3 (q50 qk4 (q25 ix_tup (pv 0) q06 (λ_ _=>rfl)) (q25 ix_tup (pv 0) q06 (λ_ _=>rfl)) (q14 _)) (qs1 (pe_not (q23 Dx Gx (hr.mono (by decide)) q19 (q00 (pv 1) (q00 (pv 9) (q00 (q25 ix_tup (q25 ix_list (q25 ix_list (pv 3) (q25 ix_tup (pv 0) q06 (λ_ _=>rfl)) (λ_ _=>rfl)) q06 (λ_ _=>rfl)) q06 (λ_ _=>rfl)) q03))))))))))))),?_⟩
  rcases fr with ⟨z,em,fz,allc⟩ | ⟨a,b,em,ma,mb,ab,nc⟩
  ·have rz:=fz.row
   refine ⟨_,rfl,_,.tup, "tuple",true,rfl,⟨_,SqT.of em⟩,rfl,_,rfl,q30 ?_⟩
   refine ⟨_,rfl,p,_,rfl,.inr (SqT.of em),_,_,rfl,rfl,_,rfl,q30 ?_⟩
   refine ⟨_,rfl,p,_,_,_,rfl,rfl,SqT.of em,rfl,_,_,_,_,rfl,.str _,.str _,Nat.zero_le _,λH1 s1'=>⟨_,rfl,q48 ?_⟩⟩
   have e1:=s1' _ _ em
   refine ⟨_,rfl,p,_,rfl,.inr (SqT.of e1),rfl,_,rfl,q48 ?_⟩
   refine ⟨_,rfl,p,_,_,_,rfl,rfl,SqT.of e1,rfl,?_⟩
   refine ⟨_,rfl,_,.str, "str",true,rfl,trivial,rfl,_,rfl,q30 ?_⟩
   refine ⟨_,rfl,_,rfl,q22 (show z.length<=100 by rw [rz.len]; omega),_,rfl,rfl,_,rfl,?_⟩
   show if (!decide (V.int (z.length:Nat)=V.int (n:Nat)))=true then _ else _
   rw [rz.len,decide_eq_true rfl]
   refine q30 ⟨_,rfl,_,rfl,λlb hlb=>?_⟩
   refine ql1 (λi σ H3=>∃ u,σ=[u]/\Same H1 H3/\H3 lb=some (.lst ((List.range i).map λj=>V.bl (inG "yn" (ch z j))))) ⟨none,rfl,Same.new hlb,q01⟩ ?_ ?_
   ·rintro i σ H3 hi ⟨u,rfl,s3,e3⟩
    refine q34 ⟨_,rfl,_,_,rfl,rfl,_,e3,q68 _ _ (by rw [rz.len] at hi; omega),_,rfl,Same.grow hlb s3,?_⟩
    rw [q01,<- qf4]
    show some (HO.lst (_ ++ [V.bl _]))=_
    rw [show (!(Builtin.Str.occurrences "yn" ⟨#[z.cps.getD i 0]⟩ 0 ("yn" : Str).length 1).isEmpty)=inG "yn" (ch z i) from z88 "yn" _]
   rintro σ H3 ⟨u,rfl,s3,e3⟩
   rw [qS3] at e3
   refine ⟨lb,_,rfl,SqL.of e3,_,rfl,?_⟩
   have allT:((List.range z.length).map λi=>inG "yn" (ch z i)).all id=true:=by
    rw [List.all_eq_true]
    intro b hb
    obtain ⟨i,hi,rfl⟩:=List.mem_map.mp hb
    refine decide_eq_true ?_
    show ch z i∈[121,110]
    rcases rz.bin i (by rw [<- rz.len]; exact List.mem_range.mp hi) with h | h <;> rw [h] <;> simp
   show if (!((List.range z.length).map λi=>inG "yn" (ch z i)).all id)=true then _ else _
   rw [allT]
   refine q30 ?_
   have s03:=s1'.trans' s3
   refine ⟨_,rfl,nl,ns,rfl,s03 _ _ en,l20,λch' H4 s4 L4=>?_⟩
   obtain ⟨cs,ecs,lcs,gcs⟩:=L4
   have s04:=s03.trans' s4
   refine ⟨ch',rfl,⟨_,SqL.of ecs⟩,?_⟩
   refine q62 (K:=K) (a:=ch') (xs:=cs.map V.ref) (λi σ H5=>∃ v6 v7 v8,σ=[some (.ref p),some (.ref q),some (.int n),some (.ref sh),some (.ref nl),some (.str z),v6,v7,v8,none]/\Same H4 H5) ⟨_,_,_,rfl,Same.refl _⟩ (λi σ H5 _ ⟨_,_,_,_,s5⟩=>SqL.of (s5 _ _ ecs)) ?_ ?_
   ·rintro i y σ H5 hi ⟨v6,v7,v8,rfl,s5⟩
    rw [List.getElem?_map] at hi
    cases zi:cs[i]? with
    | none=>rw [zi] at hi; cases hi
    | some c =>
     rw [zi] at hi
     cases hi
     obtain ⟨_,l,ec,sub,ll⟩:=gcs c (List.mem_of_getElem? zi)
     have ec5:=s5 _ _ ec
     refine ⟨_,rfl,?_⟩
     refine ⟨_,rfl,c,rfl,⟨_,SqL.of ec5⟩,?_⟩
     refine q62 (K:=K) (a:=c) (xs:=l.map V.int) (λj σ H6=>∃(x:Str) (v8:Option V),σ=[some (.ref p),some (.ref q),some (.int n),some (.ref sh),some (.ref nl),some (.str z),some (.ref c),some (.str x),v8,none]/\Same H5 H6/\Free rs n (ns.map (qf9 rs n)) x) ⟨z,_,rfl,Same.refl _,fz⟩ (λi σ H6 _ ⟨_,_,_,s6,_⟩=>SqL.of (s6 _ _ ec5)) ?_ ?_
     ·rintro j y σ H6 hj ⟨x,v8,rfl,s6,fx⟩
      rw [List.getElem?_map] at hj
      cases zj:l[j]? with
      | none=>rw [zj] at hj; cases hj
      | some u =>
       rw [zj] at hj
       cases hj
       have mu:=sub u (List.mem_of_getElem? zj)
       obtain ⟨r0,r1⟩:=rng u mu
       obtain ⟨bs,b,as,a0,f1,f2,f3,f4,f5,f6⟩:=qh5 hrs (es.mono (s04.trans' (s5.trans' s6))) r0 r1
       have ok:=qe9 (rs:=rs) (n:=n) r0 r1
       refine ⟨_,rfl,_,rfl,_,rfl,sh,_,_,_,rfl,rfl,SqL.of f1,f2,b,as,n,bun rs n (qf9 rs n u),x,rfl,fx.row,n12,SqL.of f3,f6,qW6 rs n _,(λpr hpr=>(qD8 (a:=pr.2) hpr).1),?_⟩
       refine ⟨_,_,rfl,s6,qU4 hrs fx (List.mem_map.mpr ⟨u,mu,rfl⟩) ok.1 ok.2.1 (λp' hp'=>?_) (λp' hp'=>?_)⟩
       ·obtain ⟨a',ha',rfl⟩:=List.mem_map.mp hp'
        exact (qe9 (rng a' ha').1 (rng a' ha').2).1
       ·obtain ⟨a',ha',rfl⟩:=List.mem_map.mp hp'
        rcases allc u mu a' ha' with e | e
        ·rw [e]; exact .inl rfl
        ·exact .inr e
     ·rintro σ H6 ⟨x,v8,rfl,s6,fx⟩
      refine ⟨_,rfl,_,rfl,q,n,rs,x,rfl,SqL.of ((s04.trans' (s5.trans' s6)) _ _ eq),hrs,n12,fx.row,λlp H7 hlp acc=>?_⟩
      rw [z43 fx.bor] at acc
      obtain ⟨s7,as,ea,ta⟩:=acc
      have:as=[]:=List.length_eq_zero_iff.mp ta.1
      subst this
      refine ⟨q22 (show 0<=100 by decide),λpn hpn=>⟨lp,pn,_,rfl,rfl,SqL.of (Same.new hpn _ _ ea),SqL.of q01,_,rfl,q30 ?_⟩⟩
      exact ⟨_,_,_,rfl,s5.trans' (s6.trans' (s7.trans' (Same.new hpn)))⟩
   ·rintro σ H5 ⟨v6,v7,v8,rfl,s5⟩
    exact k _ (s04.trans' s5)
  ·refine ⟨_,rfl,_,.tup, "tuple",true,rfl,⟨_,SqT.of em⟩,rfl,_,rfl,q30 ?_⟩
   refine ⟨_,rfl,p,_,rfl,.inr (SqT.of em),_,_,rfl,rfl,_,rfl,q30 ?_⟩
   refine ⟨_,rfl,p,_,_,_,rfl,rfl,SqT.of em,rfl,_,_,_,_,rfl,.str _,.str _,Nat.zero_le _,λH1 s1'=>⟨_,rfl,q30 ?_⟩⟩
   refine q30 ?_
   have e1:=s1' _ _ em
   refine ⟨_,rfl,p,_,_,_,rfl,rfl,SqT.of e1,rfl,_,_,_,_,rfl,.str _,.str _,Nat.zero_le _,λH2 s2=>⟨_,rfl,q30 ?_⟩⟩
   have s12:=s1'.trans' s2
   have e2:=s2 _ _ e1
   refine ⟨_,rfl,p,_,rfl,.inr (SqT.of e2),rfl,_,rfl,q30 ?_⟩
   have ep2:=s12 _ _ en
   refine ⟨_,rfl,_,rfl,p,_,rfl,SqT.of e2,(λw=>absurd (show HT.sIx 3 0 (some 1)=0 from w.1) (by decide)),λt hq=>?_⟩
   have ec:ql0 [V.str "bar",.int a,.int b] (some 1) none=[.int a,.int b]:=rfl
   rw [ec]
   have sq:=Same.new (o:=.tup [.int a,.int b]) hq
   refine ⟨t,rfl,⟨_,SqT.of q01⟩,?_⟩
   refine for_tup (K:=K) (a:=t) (xs:=[.int a,.int b]) (λc σ H3=>∃ v8,σ=[some (.ref p),some (.ref q),some (.int n),some (.ref sh),some (.ref nl),none,none,none,v8,none]/\Same (upd H2 t (.tup [.int a,.int b])) H3) ⟨_,rfl,Same.refl _⟩ (λc σ H3 _ ⟨_,_,s3⟩=>SqT.of (s3 _ _ q01)) ?_ ?_
   ·rintro c v' σ H3 hc ⟨v8,rfl,s3⟩
    obtain ⟨u,mu,rfl⟩:∃ u:Int,u∈ns/\v'=.int u:=by
     match c,hc with
     | 0,hc=>cases hc; exact ⟨a,ma,rfl⟩
     | 1,hc=>cases hc; exact ⟨b,mb,rfl⟩
     | c + 2,hc=>cases hc
    have ep3:=s3 _ _ (sq _ _ ep2)
    refine ⟨_,rfl,nl,rfl,⟨_,SqL.of ep3⟩,λlb hlb=>?_⟩
    refine q57 (K:=K) (a:=nl) (xs:=ns.map V.int) (λj σ H4=>∃ v bl,σ=[v,some (.int u)]/\Same H3 H4/\H4 lb=some (.lst ((bl:List Bool).map V.bl))/\bl.length=j/\(u∈ns.take j->bl.any id=true)) ⟨none,[],rfl,Same.new hlb,q01,rfl,(λh=>by cases h)⟩ (λi σ H4 _ ⟨_,_,_,s4,_⟩=>SqL.of (s4 _ _ ep3)) ?_ ?_
    ·rintro j y σ H4 hj ⟨v,bl,rfl,s4,e4,l4,a4⟩
     rw [List.getElem?_map] at hj
     cases zj:ns[j]? with
     | none=>rw [zj] at hj; cases hj
     | some x =>
      rw [zj] at hj
      cases hj
      have jl:=(List.getElem?_eq_some_iff.mp zj).1
      refine q34 ⟨_,rfl,_,rfl,_,_,.int u,.int x,rfl,.int _,.int _,Nat.zero_le _,λH5 s5=>⟨_,s5 _ _ e4,?_,_,bl ++ [_root_.L2.Dt.eqb (.int u) (.int x)],rfl,Same.grow hlb (s4.trans' s5),?_,?_,λh=>?_⟩⟩
      ·rw [List.length_map,l4]
       exact Nat.lt_of_le_of_lt (show j<=100 by omega) (by rw [sizeLine_eq]; decide)
      ·rw [q01,List.map_append]; rfl
      ·rw [List.length_append,l4]; rfl
      ·rw [List.any_append,Bool.or_eq_true]
       rw [List.take_add_one,zj] at h
       rcases List.mem_append.mp h with h | h
       ·exact .inl (a4 h)
       ·rw [List.mem_singleton.mp h]
        refine .inr ?_
        rw [show _root_.L2.Dt.eqb (.int x) (.int x)=true by unfold _root_.L2.Dt.eqb; exact beq_self_eq_true _]
        rfl
    rintro σ H4 ⟨v,bl,rfl,s4,e4,l4,a4⟩
    rw [List.length_map,List.take_length] at a4
    refine ⟨lb,bl,rfl,SqL.of e4,_,rfl,?_⟩
    show if (!bl.any id)=true then _ else _
    rw [a4 mu]
    exact q30 ⟨_,rfl,s3.trans' s4⟩
   ·rintro σ H3 ⟨v8,rfl,s3⟩
    have s03:=s12.trans' (sq.trans' s3)
    have e3:=s03 _ _ em
    obtain ⟨bs,c1,as,a0,f1,f2,f3,f4,f5,_⟩:=qh5 hrs (es.mono s03) (rng a ma).1 (rng a ma).2
    obtain ⟨bs',c1',as',a0',f1',f2',f3',f4',f5',_⟩:=qh5 hrs (es.mono s03) (rng b mb).1 (rng b mb).2
    refine ⟨_,rfl,_,rfl,p,_,_,_,rfl,rfl,SqT.of e3,rfl,sh,_,_,_,rfl,rfl,SqL.of f1,f2,c1,_,_,_,rfl,rfl,SqL.of f3,f4,a0,_,_,_,rfl,rfl,SqT.of f5,rfl,?_⟩
    refine ⟨_,rfl,p,_,_,_,rfl,rfl,SqT.of e3,rfl,_,rfl,p,_,_,_,rfl,rfl,SqT.of e3,rfl,_,_,rfl,rfl,_,rfl,?_⟩
    show if decide (a < b)=true then _ else _
    rw [if_pos (decide_eq_true ab)]
    refine ⟨_,rfl,_,rfl,_,rfl,_,rfl,p,_,_,_,rfl,rfl,SqT.of e3,rfl,sh,_,_,_,rfl,rfl,SqL.of f1',f2',c1',_,_,_,rfl,rfl,SqL.of f3',f4',a0',_,_,_,rfl,rfl,SqT.of f5',rfl,?_⟩
    refine ⟨q,n,rs,qf9 rs n a,qf9 rs n b,rfl,SqL.of (s03 _ _ eq),hrs,n12,(qe9 (rng a ma).1 (rng a ma).2).1,(qe9 (rng b mb).1 (rng b mb).2).1,λH5 s5=>⟨_,rfl,?_⟩⟩
    rw [nc]
    exact k _ (s03.trans' s5)
abbrev qz1:Stmt:=top 72
abbrev q79:Stmt:=top 71
def qU8 (m:Nat)(ns:List Int)(rs:List Str):Str:=match qx2 m [] ns with
 | some true => "no bundle"
 | some false => "told twice"
 | none=>if rs.isEmpty=true then "empty" else ""
def spDue:Sp:=λvs H Q _=>∃(q sh nl:Addr) (bs:List V) (rs:List Str) (ns:List Int),vs=[.ref sh,.ref nl,.ref q]/\H sh=some (.lst bs)/\H nl=some (.lst (ns.map V.int))/\ns.length<=20/\H q=some (.lst (rs.map V.str))/\∀ H',Same H H'->Q (.str (qU8 bs.length ns rs)) H'
abbrev N_wd:List Str:=["_law_sheaves", "_law_numbers_here", "_law_rows_here", "_law_k"]
abbrev P_wd:List Str:=["_law_sheaves", "_law_numbers_here", "_law_rows_here"]
theorem sc_wd:FnScope N_wd P_wd (q02 qz1):=⟨rfl,rfl,rfl,by decide +kernel,rfl,by decide +kernel,by decide +kernel⟩
theorem ok_due {f:Addr}{fd:FuncData}(D:Df K mg "_law_word_due" qz1 P_wd f fd) (B:Bt mg):FnOk P w K mg base (CXE P w) 1 f fd P_wd spDue:=by
 refine D.F.okN sc_wd (λvs H Q E h=>?_) (λcdv A outer s H vs Q E hr h=>?_)
 ·obtain ⟨q,sh,nl,bs,rs,ns,rfl,_⟩:=h
  rfl
 ·obtain ⟨q,sh,nl,bs,rs,ns,rfl,es,en,l20,eq,k⟩:=h
  have hu:(A.deeper (envOfC "_law_word_due" (q02 qz1) s.heap.objs.size f cdv)).units < cLine:=by have:=hr.units; omega
  refine ⟨_,q04 (q36 PassesOwn.never rfl (q31 (by rfl) B.range (q00 (q12 q20 (by rfl) B.len PySem.boot_len (q00 (pv 1) q03)) q03)) (q09 (i:=3) sc_wd.nd rfl (Or.inl rfl))
   (q04 (q41 (PW.pt (qh7 (q11 qk4 (q25 ix_list (pv 1) (pv 3) (λ_ _=>rfl)) q06 (q14 _)) (qb2 (q11 op_ge (q25 ix_list (pv 1) (pv 3) (λ_ _=>rfl)) (q12 q20 (by rfl) B.len PySem.boot_len (q00 (pv 0) q03)) (q14 _))))) (q05 (q13 q15)) q21)
   (q05 (q41 (q11 q98 (q25 ix_list (pv 1) (pv 3) (λ_ _=>rfl)) (q56 qe2 (pv 1) q76 (q75 (pv 3))) (by rfl)) (q05 (q13 q15)) q21))))
   (q05 (q13 (qd0 (q11 (z18 hu) (pv 2) (q42 q03) (q14 _)) q15 q15))),?_⟩
  refine ⟨_,rfl,nl,_,rfl,.inl (SqL.of en),_,rfl,by omega,by rw [List.length_map]; omega,?_⟩
  have enn:(((ns.map V.int).length:Nat):Int).toNat=ns.length:=by rw [List.length_map]; omega
  rw [enn]
  refine q49 (λi σ H2=>∃ v3,σ=[some (.ref sh),some (.ref nl),some (.ref q),v3]/\Same H H2/\qx2 bs.length [] ns=qx2 bs.length (ns.take i) (ns.drop i)) ⟨_,rfl,Same.refl _,rfl⟩ ?_ ?_
  ·rintro i σ H2 hi ⟨v3,rfl,s2,du⟩
   rw [Int.zero_add]
   obtain ⟨z,zi⟩:∃ z,ns[i]? = some z:=⟨_,List.getElem?_eq_getElem hi⟩
   have az:atI (ns.map V.int) (i:Int)=some (.int z):=q43 (by rw [List.getElem?_map,zi]; rfl)
   have en2:=s2 _ _ en
   rw [z95 zi] at du
   refine (λ(bad:z < 0∨(bs.length:Int)<=z->(?G:Prop))=>?main) ?bad
   case main =>
    refine ⟨_,rfl,_,rfl,nl,_,_,_,rfl,rfl,SqL.of en2,az,_,_,rfl,rfl,_,rfl,?_⟩
    show if decide (z < 0)=true then _ else _
    by_cases c1:z < 0
    ·rw [decide_eq_true c1]
     refine q48 (q48 ?_)
     exact bad (.inl c1)
    rw [decide_eq_false c1]
    refine q30 ⟨_,rfl,_,rfl,nl,_,_,_,rfl,rfl,SqL.of en2,az,_,rfl,sh,_,rfl,.inl (SqL.of (s2 _ _ es)),_,_,rfl,rfl,_,rfl,?_⟩
    show if decide (z ≥ (bs.length:Nat))=true then _ else _
    by_cases c2:(bs.length:Int)<=z
    ·rw [decide_eq_true c2]
     refine q48 ?_
     exact bad (.inr c2)
    rw [decide_eq_false c2]
    rw [if_neg (λw=>w.elim c1 c2)] at du
    refine q30 ⟨_,rfl,_,rfl,nl,_,_,_,rfl,rfl,SqL.of en2,az,_,rfl,_,rfl,_,rfl,nl,_,rfl,SqL.of en2,λp hp=>?_⟩
    have eA:ql0 (ns.map V.int) none (some (i:Int))=(ns.take i).map V.int:=by rw [qV7,<- List.map_take]
    rw [eA]
    have sp:=Same.new (o:=.lst ((ns.take i).map V.int)) hp
    refine ⟨p,_,rfl,.inl (SqL.of q01),rfl,qb6 _,_,rfl,?_⟩
    show if inV (.int z) ((ns.take i).map V.int)=true then _ else _
    rw [qw1]
    by_cases c:z∈ns.take i
    ·rw [decide_eq_true c]
     rw [if_pos c] at du
     refine q48 ?_
     have:=k _ (s2.trans' sp)
     unfold qU8 at this
     rw [du] at this
     exact this
    ·rw [decide_eq_false c]
     rw [if_neg c] at du
     exact q30 ⟨_,rfl,s2.trans' sp,du⟩
   case bad =>
    intro h
    rw [if_pos h] at du
    have:=k _ s2
    unfold qU8 at this
    rw [du] at this
    exact this
  ·rintro σ H2 ⟨v3,rfl,s2,du⟩
   rw [List.drop_length] at du
   have eq2:=s2 _ _ eq
   refine ⟨_,rfl,q22 (show 0<=100 by decide),λpn hpn=>⟨q,pn,_,rfl,rfl,SqL.of (Same.new hpn _ _ eq2),SqL.of q01,_,rfl,?_⟩⟩
   have:=k _ (s2.trans' (Same.new (o:=.lst []) hpn))
   unfold qU8 at this
   rw [du] at this
   cases rs with
   | nil=>exact q48 this
   | cons a l=>exact q30 this
def qy2 (K:PySem.W.Frag):Sp:=λvs H Q _=>∃(q sh u:Addr) (n:Nat) (rs:List Str) (d0 d1 d2 d3 d4:Int),vs=[.ref q,.ref sh,.ref u]/\H q=some (.lst (rs.map V.str))/\BunsAt H sh (bnl rs n)/\H u=some (.lst [.int d0,.int d1,.int d2,.int d3,.int d4])/\0<=d0/\d0 < 13/\n<=12/\(∀ y∈rs,Row n y) /\
 ∀ p H' (ns:List Int),Same H H'->H' p=some (.lst (ns.map V.int))->ns.length<=20->Q (.ref p) H'
def MN (H:Hp)(b:Nat):St->Hp->Prop:=λσ H2=>∃(q sh u p:Addr) (bs:List V) (ns:List Int) (v4 v5 v6 v7 v8 v9:Option V) (d0 d1 d2 d3 d4:Int),σ=[some (.ref q),some (.ref sh),some (.ref u),some (.ref p),v4,v5,v6,v7,v8,v9]/\Same H H2/\H p=none/\H2 u=some (.lst [.int d0,.int d1,.int d2,.int d3,.int d4])/\H sh=some (.lst bs)/\u≠p/\H2 p=some (.lst (ns.map V.int))/\ns.length<=b
abbrev N_nu:List Str:=["_law_rows_here", "_law_sheaves", "_law_drawn", "_law_found", "_law_k", "_law_number", "_law_at", "_law_free", "_law_low", "_law_good"]
abbrev P_nu:List Str:=["_law_rows_here", "_law_sheaves", "_law_drawn"]
theorem sc_nu:FnScope N_nu P_nu (q02 q79):=⟨rfl,rfl,rfl,by decide +kernel,rfl,by decide +kernel,by decide +kernel⟩
abbrev N_nu1:List Str:=["_law_one", "_law_rows_here", "_law_sheaves", "_law_low"]
theorem nd_nu1:N_nu1.Nodup:=by decide +kernel
theorem qJ9 {f fx:Addr}{fd gx:FuncData}(D:Df K mg "_law_numbers" q79 P_nu f fd) (Dx:Df K mg "_law_cross" q51 P_lc fx gx) (Gx:FnOk P w K mg base (CXE P w) 2 fx gx P_lc (qt9 K)) (B:Bt mg) (Y:Bx mg):FnOk P w K mg base (CXE P w) 3 f fd P_nu (qy2 K):=by
 refine D.F.okN sc_nu (λvs H Q E h=>?_) (λcdv A outer s H vs Q E hr h=>?_)
 ·obtain ⟨q,sh,u,n,rs,d0,d1,d2,d3,d4,rfl,_⟩:=h
  rfl
 ·obtain ⟨q,sh,u,n,rs,d0,d1,d2,d3,d4,rfl,eq,es,eu,b0,b0',n12,hrs,k⟩:=h
  have hu:(A.deeper (envOfC "_law_numbers" (q02 q79) s.heap.objs.size f cdv)).units < cLine:=by have:=hr.units; omega
  refine ⟨_,q04 (q18 (i:=3) sc_nu.nd rfl (Or.inl rfl) (q42 q03))
   (q04 (q36 PassesOwn.never rfl (q31 (by rfl) B.range (q00 (q25 ix_list (pv 2) q06 (λ_ _=>rfl)) q03)) (q09 (i:=4) sc_nu.nd rfl (Or.inl rfl))
   (q04 (q18 (i:=5) sc_nu.nd rfl (Or.inl rfl) (q24 q65 (q24 q46 (q25 ix_list (pv 2) q06 (λ_ _=>rfl)) (q24 qi1 (pv 4) (q24 q46 q06 (q25 ix_list (pv 2) q06 (λ_ _=>rfl))))) (q12 (qW4 rfl) (by rfl) Y.max (by rfl) (q00 q06 (q00 (q12 q20 (by rfl) B.len PySem.boot_len (q00 (pv 1) q03)) q03)))))
   (q05 (q36 PassesOwn.never rfl (q31 (by rfl) B.range (q00 (q12 q20 (by rfl) B.len PySem.boot_len (q00 (pv 1) q03)) q03)) (q09 (i:=6) sc_nu.nd rfl (Or.inl rfl))
   (q04 (q18 (i:=7) sc_nu.nd rfl (Or.inl rfl) (q24 q65 (q24 q46 (pv 5) (pv 6)) (q12 q20 (by rfl) B.len PySem.boot_len (q00 (pv 1) q03))))
   (q04 (q18 (i:=8) sc_nu.nd rfl (Or.inr rfl) (q25 ix_tup (q25 ix_list (q25 ix_list (pv 1) (pv 7) (λ_ _=>rfl)) q06 (λ_ _=>rfl)) q06 (λ_ _=>rfl)))
   (q04 (qu8 (i:=9) (N':=N_nu1) (fm:=[none,some 0,some 1,some 8]) rfl sc_nu.nd rfl rfl ⟨rfl,by decide +kernel,by decide +kernel,rfl,rfl,rfl⟩ (q27 (pv 3)) (λ_ _ _ _=>(q09 (i:=0) nd_nu1 rfl (Or.inl rfl))) (λ_ _ _ _=>(q86 (q52 (q23 Dx Gx (hr.mono (by decide)) q19 (q00 (pv 1) (q00 (q25 (r:=rIxT K) ix_tup (q25 (r:=qP4 K) ix_list (q25 (r:=qP4 K) ix_list (pv 2) (pv 0) (λ_ _=>rfl)) q06 (λ_ _=>rfl)) q06 (λ_ _=>rfl)) (q00 (pv 3) q03))))))) (λ_ _ _ _=>(pv 0)))
   (q05 (q41 (PW.pt (q72 (q11 qe6 (pv 7) (pv 3) (by rfl)) (q53 (PW.pt (qh7 (q11 q58 (q12 q20 (by rfl) B.len PySem.boot_len (q00 (pv 9) q03)) (q12 q20 (by rfl) B.len PySem.boot_len (q00 (pv 3) q03)) (q14 _)) (qb2 (q11 qk4 (q25 ix_list (pv 2) q06 (λ_ _=>rfl)) q06 (q14 _)))))))) (q04 (q26 (qk1 PySem.F.plainAttrs_list PySem.F.slot_list_append PySem.F.type_list_append q45 (pv 3) (q00 (pv 7) q03)))
   (q05 z06)) q21)))))))))
   (q04 (qr9 (MN H 13) (q41 (PW.pt (q72 (q11 q58 (q25 ix_list (pv 2) q06 (λ_ _=>rfl)) q06 (q14 _)) (q53 (q11 (qn2 hu) (pv 3) (q42 q03) (q14 _))))) (q05 (q26 (qk1 PySem.F.plainAttrs_list PySem.F.slot_list_append PySem.F.type_list_append q45 (pv 3) (q00 (q25 ix_list (pv 3) q06 (λ_ _=>rfl)) q03)))) q21))
   (q04 (qr9 (MN H 14) (q41 (q11 q98 (q25 ix_list (pv 2) q06 (λ_ _=>rfl)) (q54 (q00 q06 (q00 q06 q03))) (by rfl)) (q05 (q26 (qk1 PySem.F.plainAttrs_list PySem.F.slot_list_insert PySem.F.type_list_insert qS1 (pv 3) (q00 (q24 q65 (q25 ix_list (pv 2) q06 (λ_ _=>rfl)) (q24 q46 (q12 q20 (by rfl) B.len PySem.boot_len (q00 (pv 3) q03)) q06)) (q00 (q25 ix_list (q42 (q00 (pe_un un_neg q06) (q00 (q12 q20 (by rfl) B.len PySem.boot_len (q00 (pv 1) q03)) q03))) (q24 q65 (q25 ix_list (pv 2) q06 (λ_ _=>rfl)) q06) (λ_ _=>rfl)) q03))))) q21))
   (q05 (q13 (pv 3)))))),?_⟩
  refine ⟨q22 (show 0<=100 by decide),λp hp=>?_⟩
  have s1':=Same.new (o:=.lst []) hp
  have ep:upd H p (.lst []) p=some (.lst (([]:List Int).map V.int)):=q01
  generalize upd H p (.lst [])=H1 at *
  obtain ⟨bs,ebs,lbs⟩:∃ bs:List Addr,H sh=some (.lst (bs.map V.ref))/\bs.length=(q32 rs n).length:=by
   obtain ⟨bs,e,l,_⟩:=es
   exact ⟨bs,e,by rw [l]; unfold bnl; rw [List.length_map]⟩
  have L12:(q32 rs n).length<=12:=Nat.le_trans (qd2 rs n) n12
  have hup:u≠p:=λw=>by rw [<- w,eu] at hp; cases hp
  refine ⟨_,rfl,u,_,_,_,rfl,rfl,SqL.of (s1' _ _ eu),rfl,_,rfl,by omega,by omega,?_⟩
  refine q49 (λi σ H2=>∃(ns:List Int) (v4 v5 v6 v7 v8 v9:Option V),σ=[some (.ref q),some (.ref sh),some (.ref u),some (.ref p),v4,v5,v6,v7,v8,v9]/\Same H H2/\H2 p=some (.lst (ns.map V.int))/\ns.length<=i/\∀ z∈ns,0<=z/\z < ((q32 rs n).length:Nat)) ⟨[],_,_,_,_,_,_,rfl,s1',ep,Nat.le_refl _,(λz h=>by cases h)⟩ ?_ ?_
  ·rintro i σ H2 hi ⟨ns,v4,v5,v6,v7,v8,v9,rfl,s2,e2,l2,r2⟩
   rw [Int.zero_add]
   have eu2:=s2 _ _ eu
   have es2:=s2 _ _ ebs
   have mpos:(0:Int) < if (((bs.map V.ref).length:Nat):Int) > 1 then (((bs.map V.ref).length:Nat):Int) else 1:=by split <;> omega
   refine ⟨_,rfl,u,_,_,_,rfl,rfl,SqL.of eu2,rfl,_,rfl,_,rfl,u,_,_,_,rfl,rfl,SqL.of eu2,rfl,_,_,rfl,rfl,_,_,rfl,rfl,.inl ⟨by omega,by omega⟩,_,_,rfl,rfl,_,rfl,sh,_,rfl,.inl (SqL.of es2),_,_,rfl,_,_,rfl,rfl,mpos,?_⟩
   obtain ⟨num,hn⟩:∃ z,z=(d1 + (i:Int) * (1 + d2)) % (if (((bs.map V.ref).length:Nat):Int) > 1 then (((bs.map V.ref).length:Nat):Int) else 1):=⟨_,rfl⟩
   refine ⟨_,rfl,sh,_,rfl,.inl (SqL.of es2),_,rfl,by omega,by rw [List.length_map]; omega,?_⟩
   have enn:(((bs.map V.ref).length:Nat):Int).toNat=(q32 rs n).length:=by rw [List.length_map]; omega
   have elen:(((bs.map V.ref).length:Nat):Int)=((q32 rs n).length:Nat):=by rw [List.length_map]; omega
   rw [enn]
   refine q49 (λj σ H3=>∃(v6 v7 v8 v9:Option V),σ=[some (.ref q),some (.ref sh),some (.ref u),some (.ref p),some (.int i),some (.int num),v6,v7,v8,v9]/\Same H2 H3) ⟨_,_,_,_,by rw [hn]; rfl,Same.refl _⟩ ?_ ?_
   ·rintro j σ H3 hj ⟨v6,v7,v8,v9,rfl,s3⟩
    rw [Int.zero_add]
    have s03:=s2.trans' s3
    have mp:(0:Int) < (((bs.map V.ref).length:Nat):Int):=by rw [elen]; omega
    refine ⟨_,rfl,_,rfl,_,_,rfl,rfl,_,rfl,sh,_,rfl,.inl (SqL.of (s3 _ _ es2)),_,_,rfl,rfl,mp,?_⟩
    rw [elen]
    have f0:0<=(num + (j:Int)) % ((q32 rs n).length:Nat):=Int.emod_nonneg _ (by omega)
    have fl:(num + (j:Int)) % ((q32 rs n).length:Nat) < ((q32 rs n).length:Nat):=Int.emod_lt_of_pos _ (by omega)
    dsimp only
    generalize (num + (j:Int)) % ((q32 rs n).length:Nat)=fr at f0 fl ⊢
    obtain ⟨bs',b,as,a0,g1,g2,g3,g4,g5,_⟩:=qh5 hrs (es.mono s03) f0 fl
    refine ⟨_,rfl,_,rfl,sh,_,_,_,rfl,rfl,SqL.of g1,g2,b,_,_,_,rfl,rfl,SqL.of g3,g4,a0,_,_,_,rfl,rfl,SqT.of g5,rfl,?_⟩
    have e3:=s3 _ _ e2
    refine ⟨_,rfl,p,rfl,⟨_,SqL.of e3⟩,λlb hlb=>?_⟩
    refine q57 (K:=K) (a:=p) (xs:=ns.map V.int) (λc σ H4=>∃(v:Option V) (gl:List Int),σ=[v,some (.ref q),some (.ref sh),some (.int (qf9 rs n fr))]/\Same H3 H4/\H4 lb=some (.lst (gl.map V.int))/\gl.length<=c) ⟨none,[],rfl,Same.new hlb,q01,Nat.le_refl _⟩ (λi σ H4 _ ⟨_,_,_,s4,_⟩=>SqL.of (s4 _ _ e3)) ?_ ?_
    ·rintro c y σ H4 hc ⟨v,gl,rfl,s4,e4,l4⟩
     rw [List.getElem?_map] at hc
     cases zc:ns[c]? with
     | none=>rw [zc] at hc; cases hc
     | some x =>
      rw [zc] at hc
      cases hc
      have cl:=(List.getElem?_eq_some_iff.mp zc).1
      obtain ⟨x0,x1⟩:=r2 x (List.mem_of_getElem? zc)
      obtain ⟨bs2,b2,as2,a2,g1',g2',g3',g4',g5',_⟩:=qh5 hrs (es.mono (s03.trans' s4)) x0 x1
      refine ⟨_,rfl,_,rfl,_,rfl,sh,_,_,_,rfl,rfl,SqL.of g1',g2',b2,_,_,_,rfl,rfl,SqL.of g3',g4',a2,_,_,_,rfl,rfl,SqT.of g5',rfl,_,rfl,q,n,rs,qf9 rs n x,qf9 rs n fr,rfl,SqL.of ((s03.trans' s4) _ _ eq),hrs,n12,(qe9 x0 x1).1,(qe9 f0 fl).1,λH5 s5=>⟨_,rfl,qd4 (λ_=>?_) (λ_=>?_)⟩⟩
      ·refine ⟨_,rfl,_,s5 _ _ e4,?_,_,gl ++ [x],rfl,Same.grow hlb (s4.trans' s5),?_,?_⟩
       ·rw [List.length_map]
        exact Nat.lt_of_le_of_lt (show gl.length<=20 by omega) (by decide)
       ·rw [q01,List.map_append]; rfl
       ·rw [List.length_append]; exact Nat.add_le_add_right l4 1
      ·exact ⟨_,gl,rfl,s4.trans' s5,s5 _ _ e4,Nat.le_succ_of_le l4⟩
    rintro σ H4 ⟨v,gl,rfl,s4,e4,l4⟩
    have s04:=s03.trans' s4
    have ep4:=s4 _ _ e3
    refine (λ(As:fr∉ns->(?GA:Prop)) (St:(?GS:Prop))=>?main) ?asg ?stay
    case main =>
     refine ⟨_,rfl,_,rfl,p,_,rfl,.inl (SqL.of ep4),rfl,qb6 _,_,rfl,?_⟩
     show if (!inV (.int fr) (ns.map V.int))=true then _ else _
     rw [qw1]
     by_cases c:fr∈ns
     ·rw [decide_eq_true c]
      refine q30 (q30 ?_)
      exact St
     rw [decide_eq_false c]
     refine q48 ⟨_,rfl,lb,_,rfl,.inl (SqL.of e4),_,rfl,p,_,rfl,.inl (SqL.of ep4),rfl,_,rfl,qd4 (λ_=>?_) (λ_=>?_)⟩
     ·refine q48 ?_
      exact As c
     ·refine ⟨_,rfl,u,_,_,_,rfl,rfl,SqL.of (s04 _ _ eu),rfl,_,_,rfl,rfl,_,rfl,qd4 (λ_=>?_) (λ_=>?_)⟩
      ·exact As c
      ·exact St
    case asg =>
     intro _
     refine ⟨_,rfl,.inl ⟨rfl,_,SqL.of ep4⟩,_,rfl,p,_,_,rfl,rfl,ep4,?_,?_⟩
     ·rw [List.length_map]
      exact Nat.lt_of_le_of_lt (show ns.length<=20 by omega) (by decide)
     refine ⟨ns ++ [fr],_,_,_,_,_,_,rfl,Same.grow hp s04,?_,?_,λz hz=>?_⟩
     ·rw [q01,List.map_append]; rfl
     ·rw [List.length_append]; exact Nat.add_le_add_right l2 1
     ·rcases List.mem_append.mp hz with hz | hz
      ·exact r2 z hz
      ·rw [List.mem_singleton.mp hz]; exact ⟨f0,fl⟩
    case stay=>exact ⟨_,_,_,_,rfl,s3.trans' s4⟩
   ·rintro σ H3 ⟨v6,v7,v8,v9,rfl,s3⟩
    exact ⟨ns,_,_,_,_,_,_,rfl,s2.trans' s3,s3 _ _ e2,by omega,r2⟩
  ·rintro σ H2 ⟨ns,v4,v5,v6,v7,v8,v9,rfl,s2,e2,l2,r2⟩
   have l2:ns.length<=12:=by omega
   have M0:∀(b:Nat) (qs:List Int) (H6:Hp),Same H H6->H6 p=some (.lst (qs.map V.int))->H6 u=some (.lst [.int d0,.int d1,.int d2,.int d3,.int d4])->qs.length<=b->MN H b [some (.ref q),some (.ref sh),some (.ref u),some (.ref p),v4,v5,v6,v7,v8,v9] H6:=λb qs H6 h1 h2 h3 h4=>⟨q,sh,u,p,_,qs,v4,v5,v6,v7,v8,v9,d0,d1,d2,d3,d4,rfl,h1,hp,h3,ebs,hup,h2,h4⟩
   have eu2:=s2 _ _ eu
   refine ⟨?_,?_⟩
   ·refine ⟨_,rfl,u,_,_,_,rfl,rfl,SqL.of eu2,rfl,rfl,_,rfl,qd4 (λ_=>?_) (λ_=>?_)⟩
    ·refine ⟨_,rfl,q22 (show 0<=100 by decide),λpn hpn=>⟨p,pn,_,rfl,rfl,SqL.of (Same.new hpn _ _ e2),SqL.of q01,_,rfl,?_⟩⟩
     have sn:=Same.new (o:=.lst []) hpn
     have e6:=sn _ _ e2
     have eu6:=sn _ _ eu2
     have s6:=s2.trans' sn
     generalize upd H2 pn (.lst [])=H6 at *
     cases ns with
     | nil=>exact q30 (M0 _ [] _ s6 e6 eu6 (Nat.zero_le _))
     | cons z zs =>
      refine q48 ⟨_,rfl,.inl ⟨rfl,_,SqL.of e6⟩,_,rfl,p,_,_,_,rfl,rfl,SqL.of e6,(show atI _ ((0:Nat):Int)=_ from q43 rfl),p,_,_,rfl,rfl,e6,?_,?_⟩
      ·rw [List.length_map]
       exact Nat.lt_of_le_of_lt l2 (by decide)
      refine M0 _ (z :: zs ++ [z]) _ (Same.grow hp s6) ?_ ?_ ?_
      ·rw [q01,List.map_append]; rfl
      ·rw [q07 hup]; exact eu6
      ·rw [List.length_append]; show _ + 1<=_; omega
    ·exact q30 (M0 _ ns _ s2 e2 eu2 (by omega))
   clear M0
   rintro σ H6 ⟨q,sh,u,p,bs,ns,v4,v5,v6,v7,v8,v9,d0,d1,d2,d3,d4,rfl,s6,hp,eu6,ebs,hup,e6,l6⟩
   refine ⟨?_,?_⟩
   ·refine ⟨_,rfl,u,_,_,_,rfl,rfl,SqL.of eu6,rfl,q22 (show 2<=100 by decide),λTp nT=>⟨Tp,_,rfl,.inr (SqT.of q01),rfl,rfl,_,rfl,?_⟩⟩
    have sT:=Same.new (o:=.tup [.int 1,.int 2]) nT
    have s7:=s6.trans' sT
    have e7:=sT _ _ e6
    have eu7:=sT _ _ eu6
    have ebs7:=s7 _ _ ebs
    generalize upd H6 Tp (.tup [.int 1,.int 2])=H7 at *
    refine qd4 (λ_=>?_) (λ_=>?_)
    ·refine ⟨_,rfl,.inl ⟨rfl,_,SqL.of e7⟩,_,rfl,u,_,_,_,rfl,rfl,SqL.of eu7,rfl,_,rfl,p,_,rfl,.inl (SqL.of e7),_,_,rfl,rfl,_,_,rfl,rfl,by omega,?_⟩
     refine ⟨_,rfl,_,rfl,sh,_,rfl,.inl (SqL.of ebs7),q22 (show 2<=100 by decide),λl hl=>?_⟩
     have sl:=Same.new (o:=.lst [.int (-1),.int (bs.length:Nat)]) hl
     have e8:=sl _ _ e7
     have eu8:=sl _ _ eu7
     have s8:=s7.trans' sl
     obtain ⟨z,atz⟩:∃ z:Int,atI [V.int (-1),V.int (bs.length:Nat)] (d2 % 2)=some (.int z):=by
      have hm:d2 % 2=0∨d2 % 2=1:=by omega
      rcases hm with e | e <;> rw [e]
      ·exact ⟨-1,rfl⟩
      ·exact ⟨_,rfl⟩
     refine ⟨_,rfl,u,_,_,_,rfl,rfl,SqL.of eu8,rfl,_,_,rfl,rfl,(show (0:Int) < 2 by decide),l,_,_,_,rfl,rfl,SqL.of q01,atz,?_⟩
     refine ⟨p,_,_,_,rfl,rfl,e8,?_,?_,?_,?_⟩
     ·rw [List.length_map,sizeLine_eq]; omega
     ·exact Int.emod_nonneg _ (by omega)
     ·have:=Int.emod_lt_of_pos d1 (show (0:Int) < ((ns.map V.int).length:Nat) + 1 by omega)
      omega
     generalize (d1 % (((ns.map V.int).length:Nat) + 1)).toNat=j
     refine ⟨q,sh,u,p,_,ns.take j ++ z :: ns.drop j,v4,v5,v6,v7,v8,v9,d0,d1,d2,d3,d4,rfl,Same.grow hp s8,hp,by rw [q07 hup]; exact eu8,ebs,hup,?_,?_⟩
     ·rw [q01,List.map_append,List.map_cons,List.map_take,List.map_drop]
     ·rw [List.length_append,List.length_cons,List.length_take,List.length_drop]
      omega
    ·exact ⟨q,sh,u,p,_,ns,v4,v5,v6,v7,v8,v9,d0,d1,d2,d3,d4,rfl,s7,hp,eu7,ebs,hup,e7,by omega⟩
   rintro σ H7 ⟨q,sh,u,p,bs,ns,v4,v5,v6,v7,v8,v9,d0,d1,d2,d3,d4,rfl,s7,hp,eu7,ebs,hup,e7,l7⟩
   exact ⟨_,rfl,k p _ ns s7 e7 (by omega)⟩
end
abbrev qb1:Stmt:=top 75
structure Fct (C Pt:Addr) (H:Hp) (p q t dx kp bt sh:Addr) (n m:Nat) (ms:List Int) (rs:List Str):Prop where
 tb:TabOk H Pt qL
 ep:H p=some (.lst (ms.map V.int))
 eq:H q=some (.lst (rs.map V.str))
 es:BunsAt H sh (bnl rs n)
 rows:∀ y∈rs,Row n y
 tab:TabAt C H t dx kp bt n m rs
 n1:1<=n
 n12:n<=12
 r63:rs.length<=63
theorem Fct.mono {C Pt:Addr}{H H':Hp}{p q t dx kp bt sh:Addr}{n m:Nat}{ms:List Int}{rs:List Str}(h:Fct C Pt H p q t dx kp bt sh n m ms rs)(s:Same H H'):Fct C Pt H' p q t dx kp bt sh n m ms rs :=
 ⟨h.tb.same s,s _ _ h.ep,s _ _ h.eq,h.es.mono s,h.rows,h.tab.mono s,h.n1,h.n12,h.r63⟩
theorem Fct.monoP {C Pt:Addr}{H H':Hp}{p q t dx kp bt sh:Addr}{n m:Nat}{ms:List Int}{rs:List Str}(h:Fct C Pt H p q t dx kp bt sh n m ms rs)(T:TabOk H' Pt qL)(s:SameP Pt H H'):Fct C Pt H' p q t dx kp bt sh n m ms rs :=
 ⟨T,qq1 h.tb s h.ep (λps z=>by cases z),qq1 h.tb s h.eq (λps z=>by cases z),BunsAt.monoP h.tb h.es s,h.rows,TabAt.monoP h.tb s h.tab,h.n1,h.n12,h.r63⟩
def Fnd (H:Hp)(r:Addr)(rs:List Str)(n:Nat)(ns:List Int):Prop :=
 (∃ ww:Str,qU8 (q32 rs n).length ns rs=ww/\ww ≠ "" /\ H r=some (.tup [.str ww])) ∨
 (qU8 (q32 rs n).length ns rs = "" /\ qx2 (q32 rs n).length [] ns=none/\∃ a,H r=some (.tup [.str "told",.ref a])/\FreeAt H a rs n ns)
theorem Fnd.mono {H H':Hp}{r:Addr}{rs:List Str}{n:Nat}{ns:List Int}(h:Fnd H r rs n ns)(s:Same H H'):Fnd H' r rs n ns:=by
 rcases h with ⟨w,a,b,e⟩ | ⟨a,b,c,e,M⟩
 ·exact .inl ⟨w,a,b,s _ _ e⟩
 ·exact .inr ⟨a,b,c,s _ _ e,M.mono s⟩
def M0 (Pt:Addr):St->Hp->Prop:=λσ H=>∃(p q:Addr) (n:Nat) (ms:List Int) (rs:List Str),σ=[some (.ref p),some (.int n),some (.ref q),none,none,none,none,none,none,none]/\H Pt=some (.tbl #[])/\H p=some (.lst (ms.map V.int))/\H q=some (.lst (rs.map V.str))/\(∀ x∈rs,Row n x)/\1<=n/\n<=12/\rs.length<=63
def MI (C Pt:Addr):St->Hp->Prop:=λσ H=>∃(p q t dx kp bt sh:Addr) (n m:Nat) (ms:List Int) (rs:List Str) (v5 v6 v7 v8 v9:Option V),σ=[some (.ref p),some (.int n),some (.ref q),some (.ref t),some (.ref sh),v5,v6,v7,v8,v9]/\Fct C Pt H p q t dx kp bt sh n m ms rs
def M1 (C Pt:Addr):St->Hp->Prop:=λσ H=>∃(p q t dx kp bt sh nl hd r:Addr) (n m:Nat) (ms:List Int) (rs:List Str) (ns:List Int) (v5 v9:Option V),σ=[some (.ref p),some (.int n),some (.ref q),some (.ref t),some (.ref sh),v5,some (.ref nl),some (.ref hd),some (.ref r),v9]/\Fct C Pt H p q t dx kp bt sh n m ms rs/\H nl=some (.lst (ns.map V.int))/\H hd=some (.lst (ns.map V.int))/\ns.length<=20/\Fnd H r rs n ns
section
variable {P:Program}{w:World}{K:PySem.W.Frag}{mg:Str->Option Value}{base:Heap}{C fi fa ft fy fm fc:Addr}{gi ga gt gy gm gc:FuncData}{W BC BS fW fC fS BP fP BU fU:Addr}{gW gC gS gP gU:FuncData}
abbrev N_lw:List Str:=["_law_script", "_law_n", "_law_rows_here", "_law_made", "_law_sheaves", "_law_k", "_law_numbers_here", "_law_handed", "_law_told", "_law_word_here"]
abbrev P_lw:List Str:=["_law_script"]
theorem sc_lw:FnScope N_lw P_lw (q02 qb1):=⟨rfl,rfl,rfl,by decide +kernel,rfl,by decide +kernel,by decide +kernel⟩
abbrev XL (P:Program)(w:World)(K:PySem.W.Frag)(mg:Str->Option Value)(base:Heap)(f:Addr)(cc:Addr)(A:Around)(outer:List Env)(s:Shared)(H:Hp)(E:XK):Cx :=
 (qD2 (CXE P w) P w K mg base N_lw "law" (q02 qb1) f (.ref cc) A outer s H E).nox
variable {f cc Pt:Addr}
def qY4 (K:PySem.W.Frag)(Pt:Addr):Sp:=λvs H Q _=>∃(a:Addr) (ns:List Int),vs=[.ref a]/\SqL K H a (ns.map V.int)/\ns.length<=63/\H Pt=some (.tbl #[])/\∀ H',Q (.bl true) H'
theorem ok_law {oc kV doc pm ct:Value}{od an:Option Addr}{osl:Array (Option Value)}{fr fl fs fw fb fe fn fk fu fz fo:Addr}{gr gl gs gw gb ge gn gk gu gz go:FuncData}
  (lk:K.lookup f=some ⟨oc,od,.func (PySem.W.fnOf "law" "law" (q10 qb1) (q08 qb1) (q02 qb1) .none kV doc pm an (.ref cc) ct),osl⟩) (hcd:PySem.W.codeIn K (.ref cc) "law" = true)
  (Dr:Df K mg "_law_draws" q95 Pdr fr gr) (Dl:Df K mg "_law_cell" qm0 ["_law_script", "_law_k"] fl gl) (Ds:Df K mg "_law_setup" qg2 Pse fs gs) (Gs:FnOk P w K mg base (CXE P w) 4 fs gs Pse (qN4 K)) (Dw:Df K mg "_law_word" qo0 ["_law_asked"] fw gw)
  (Db:Df K mg "_law_table" qc4 Plt fb gb) (Gb:FnOk P w K mg base (CXE P w) 5 fb gb Plt (z68 K C)) (De:Df K mg "_law_same" ql6 Ps fe ge) (Dn:Df K mg "free_at" ql8 P_fr fn gn) (Gn:∀ base,FnOk P w K mg base (CXE P w) 9 fn gn P_fr (qO0 C BC BS BP BU))
  (Dk:Df K mg "_law_bundles" ql7 P_lb fk gk) (Gk:FnOk P w K mg base (CXE P w) 2 fk gk P_lb (z69 K)) (Du:Df K mg "_law_numbers" q79 P_nu fu gu) (Gu:FnOk P w K mg base (CXE P w) 3 fu gu P_nu (qy2 K)) (Dz:Df K mg "_law_holds" qe3 P_ho fz gz) (Gz:FnOk P w K mg base (CXE P w) 3 fz gz P_ho (qN9 K))
  (Do:Df K mg "_law_word_due" qz1 P_wd fo go)
  (X:Xs K mg W BC BS fW fC fS gW gC gS) (Zp:Xc K mg W BP fP gP "NoBundle" "NoBundle.__init__" qc3) (Zu:Xc K mg W BU fU gU "Twice" "Twice.__init__" qc1) (B:Bt mg) (Cd:PySem.W.CodeHd base cc Pt) (BM:BMain mg base) :
  FnOk P w K mg base (CXE P w) 12 f (PySem.W.fnOf "law" "law" (q10 qb1) (q08 qb1) (q02 qb1) .none kV doc pm an (.ref cc) ct) ["_law_script"] (qY4 K Pt):=by
 refine fn_of lk hcd sc_lw (λvs H Q E h=>?_) λA outer s H vs Q E hr h=>?_
 ·obtain ⟨a,ns,rfl,_⟩:=h
  rfl
 obtain ⟨a,ns,rfl,hS,hl,hP,k⟩:=h
 suffices hsuff:∃ t,PSs (XL P w K mg base f cc A outer s H E) (q08 qb1) t/\t { nx:=λ_ H'=>Q .non H',rt:=Q } (start N_lw [.ref a]) H by
  obtain ⟨t,h1,h2⟩:=hsuff
  exact ⟨t,h1.nox,h2⟩
 have hu:(XL P w K mg base f cc A outer s H E).A.units < cLine:=hr.units0
 refine ⟨_,q04 (q18 (i:=0) sc_lw.nd rfl (Or.inl rfl) (q56 qe2 (pv 0) q76 (q75 q06)))
   (q04 (ps_asg (q23 Ds Gs (hr.mono (by decide)) q19 (q00 (pv 0) (q00 q06 q03))) (q64 rfl (q17 (q09 (i:=1) sc_lw.nd rfl (Or.inl rfl)) (q17 (q09 (i:=2) sc_lw.nd rfl (Or.inl rfl)) q44))))
   (q04 (qr9 (M0 Pt) (q41 (q11 q58 (q25 ix_list (q23 Dr (qi2 Dr B) (hr.mono (by decide)) q19 (q00 (q24 q46 (q23 Dl (qv7 Dl B) (hr.mono (by decide)) q19 (q00 (pv 0) (q00 q06 q03))) q06) (q00 (q42 (q00 q06 q03)) q03))) q06 (λ_ _=>rfl)) q06 (q14 _)) (q05 (q18 (i:=2) sc_lw.nd rfl (Or.inl rfl) (q42 q03))) q21))
   (q04 (q18 (i:=3) sc_lw.nd rfl (Or.inr rfl) (q23 Db Gb (hr.mono (by decide)) q19 (q00 (pv 2) (q00 (pv 1) q03))))
   (q04 (q18 (i:=4) sc_lw.nd rfl (Or.inl rfl) (q23 Dk Gk (hr.mono (by decide)) q19 (q00 (pv 2) (q00 (pv 1) q03))))
   (q04 (q36 PassesOwn.never rfl (q31 (by rfl) B.range (q00 q06 q03)) (q09 (i:=5) sc_lw.nd rfl (Or.inl rfl))
   (q04 (q18 (i:=6) sc_lw.nd rfl (Or.inl rfl) (q23 Du Gu (hr.mono (by decide)) q19 (q00 (pv 2) (q00 (pv 4) (q00 (q23 Dr (qi2 Dr B) (hr.mono (by decide)) q19 (q00 (q24 q46 (q23 Dl (qv7 Dl B) (hr.mono (by decide)) q19 (q00 (pv 0) (q00 (q24 q46 q06 (pv 5)) q03))) (q24 qi1 q06 (pv 5))) (q00 (q42 (q00 q06 (q00 q06 (q00 q06 (q00 q06 (q00 q06 q03)))))) q03))) q03)))))
   (q04 (q18 (i:=7) sc_lw.nd rfl (Or.inr rfl) (qb4 qm3 (by rfl) B.list (by rfl) (q00 (pv 6) q03)))
   (q04 (qr9 (M1 C Pt) (q18 (i:=8) sc_lw.nd rfl (Or.inl rfl) (pe_word (W:=W) (P:=Pt) (c:=cc) (kl:=9) (kw:=11) (N:=["_law_made", "_law_handed"]) (fm:=[3,7]) (t:=λE=>qJ3 (qO0 C BC BS BP BU) [] E (qh4 (qE8 0) (qh4 (qE8 1) qX6))) Dw (λbase f fdl spl ho hb G=>ok_word Dw X ho hb G) (hr.mono (by decide)) rfl Cd BM (λ_=>rfl) (by exact ⟨rfl,rfl,rfl,by decide +kernel⟩) (by exact (show ∀ y:Str×NameKind,y∈_->y.2=NameKind.free->(q02 qb1).names.lookup y.1=some NameKind.cell by decide +kernel)) rfl (by intro i x h; match i,h with | 0,h=>cases h; exact ⟨rfl,3,rfl,rfl⟩ | 1,h=>cases h; exact ⟨rfl,7,rfl,rfl⟩ | _ + 2,h=>cases h) (by intro base f c' A outer s H E hr; exact q23 Dn (Gn base) hr passL (q00 (pv 0) (q00 (pv 1) q03))) q19)))
   (q04 (q18 (i:=9) sc_lw.nd rfl (Or.inl rfl) (q23 Do (ok_due Do B) (hr.mono (by decide)) q19 (q00 (pv 4) (q00 (pv 6) (q00 (pv 2) q03)))))
   (q04 (q41 (PW.pt (qh7 (q11 (op_neL hu) (pv 7) (pv 6) (q14 _)) (qb2 (PW.pt (q72 (q11 qv5 (pv 9) q15 (q14 _)) (q53 (qa7 (q52 (q23 De (qv6 De B 2) (hr.mono (by decide)) q19 (q00 (pv 8) (q00 (q54 (q00 (pv 9) q03)) q03))))))))))) (q05 (q13 qk2)) q21)
   (q04 (q41 (PW.pt (q72 (q11 q58 (pv 9) q15 (q14 _)) (q53 (q11 qv5 (q25 ix_tup (pv 8) q06 (λ_ _=>rfl)) q15 (q14 _))))) (q05 (q13 qk2)) q21)
   (q05 (q41 (PW.pt (q72 (q11 q58 (pv 9) q15 (q14 _)) (q53 (qa7 (q52 (q23 Dz Gz (hr.mono (by decide)) q19 (q00 (q25 ix_tup (pv 8) q06 (λ_ _=>rfl)) (q00 (pv 2) (q00 (pv 1) (q00 (pv 4) (q00 (pv 6) q03))))))))))) (q05 (q13 qk2)) q21)))))))))
   (q05 (q13 qk2))))))),?_⟩
 refine ⟨_,rfl,_,rfl,a,_,rfl,hS,λp hp=>?_⟩
 obtain ⟨ms,em,lm⟩:∃ ys:List Int,ql0 (ns.map V.int) none (some 63)=ys.map V.int/\ys.length<=ns.length:=by
  unfold ql0
  rw [<- List.map_drop,<- List.map_take]
  refine ⟨_,rfl,?_⟩
  rw [List.length_take,List.length_drop]
  omega
 rw [em]
 have P0:=Same.new (o:=.lst (ms.map V.int)) hp Pt _ hP
 refine ⟨_,rfl,p,ms,12,rfl,SqL.of q01,by omega,λn q T rs H1 n1 n12 hrs r63 s1' eq1 eT=>?_⟩
 have p1:=s1' _ _ q01
 have P1:=s1' _ _ P0
 refine ⟨T,_,rfl,SqT.of eT,rfl,_,_,rfl,_,_,rfl,rfl,?_⟩
 refine ⟨?_,?_⟩
 ·refine ⟨_,rfl,p,ms,0,rfl,SqL.of p1,_,_,rfl,rfl,q22 (show 1<=100 by decide),λt' ht'=>?_⟩
  refine ⟨_,t',[11],rfl,SqL.of q01,by decide,by decide,λu H2 s2 hu e2=>?_⟩
  have s12:Same H1 H2:=(Same.new ht').trans' s2
  refine ⟨u,_,_,_,rfl,rfl,SqL.of e2,rfl,rfl,_,rfl,qd4 (λ_=>?_) (λ_=>?_)⟩
  ·refine ⟨Nat.zero_le _,λlb hlb=>?_⟩
   have sb:=Same.new (o:=.lst []) hlb
   have s13:=s12.trans' sb
   exact ⟨p,lb,n,ms,[],rfl,s13 _ _ P1,s13 _ _ p1,q01,(λ_ h=>by cases h),n1,n12,Nat.zero_le _⟩
  ·exact ⟨p,q,n,ms,rs,rfl,s12 _ _ P1,s12 _ _ p1,s12 _ _ eq1,hrs,n1,n12,r63⟩
 clear P0 P1 p1 s1' eq1 eT em lm
 rintro σ H2 ⟨p,q,n,ms,rs,rfl,P2,p2,q2,hrs,n1,n12,r63⟩
 refine ⟨_,rfl,_,rfl,q,n,rs,rfl,SqL.of q2,hrs,n1,n12,by omega,λt H3 dx kp bt s3 _ _ _ tab=>?_⟩
 refine ⟨_,rfl,_,rfl,q,n,rs,rfl,SqL.of (s3 _ _ q2),hrs,n12,λsh H4 bun4=>?_⟩
 have s4:=bun4.same
 have s24:=s3.trans' s4
 have F4:Fct C Pt H4 p q t dx kp bt sh n rs.length ms rs:=⟨⟨#[],s24 _ _ P2,True.intro,λpos cv z=>by cases z⟩,s24 _ _ p2,s24 _ _ q2,Buns.now bun4,hrs,tab.mono s4,n1,n12,r63⟩
 refine ⟨_,rfl,by decide,by decide,?_⟩
 refine q49 (n:=11) (λi σ H4=>MI C Pt σ H4) ⟨p,q,t,dx,kp,bt,sh,n,rs.length,ms,rs,none,none,none,none,none,rfl,F4⟩ ?_ (λσ H5 _=>k H5)
 clear F4 s24 s4 bun4 tab s3 r63 n12 n1 hrs q2 p2 P2
 rintro i σ H5 hi ⟨p,q,t,dx,kp,bt,sh,n,m,ms,rs,v5,v6,v7,v8,v9,rfl,F5⟩
 rw [Int.zero_add]
 have n1:=F5.n1
 have n12:=F5.n12
 have r63:=F5.r63
 have ei:(2:Int) + (i:Int)=((2 + i:Nat):Int):=by omega
 refine ⟨_,rfl,_,rfl,_,rfl,_,rfl,_,_,rfl,rfl,p,ms,2 + i,(by rw [<- ei]; rfl),SqL.of F5.ep,_,rfl,_,_,rfl,rfl,.inl ⟨by decide,by decide⟩,_,_,rfl,rfl,q22 (show 5<=100 by decide),λt' ht'=>?_⟩
 refine ⟨_,t',[13,13,11,7,11],rfl,SqL.of q01,by decide,by decide,λu H6 s6 hu' e6=>?_⟩
 have s56:Same H5 H6:=(Same.new (o:=.lst [.int 13,.int 13,.int 11,.int 7,.int 11]) ht').trans' s6
 obtain ⟨d0,d1,d2,d3,d4,ed,b0,b0'⟩:∃ d0 d1 d2 d3 d4:Int,(qq5 (qL7 ms (2 + i) + 5 * (i:Int)) [13,13,11,7,11]).map V.int=[.int d0,.int d1,.int d2,.int d3,.int d4]/\0<=d0/\d0 < 13:=⟨_,_,_,_,_,rfl,Int.emod_nonneg _ (by decide),Int.emod_lt_of_pos _ (by decide)⟩
 rw [ed] at e6
 have F6:=F5.mono s56
 refine ⟨q,sh,u,n,rs,d0,d1,d2,d3,d4,rfl,F6.eq,F6.es,e6,b0,b0',n12,F6.rows,λnl H7 ns s7 en7 l20=>?_⟩
 refine ⟨_,rfl,nl,_,rfl,.inl (SqL.of en7),λhd hhd=>?_⟩
 have s8:=Same.new (o:=.lst (ns.map V.int)) hhd
 have F8:=F6.mono (s7.trans' s8)
 have ep8:=s8 _ _ en7
 have eh8:upd H7 hd (.lst (ns.map V.int)) hd=some (.lst (ns.map V.int)):=q01
 generalize upd H7 hd (.lst (ns.map V.int))=H8 at *
 clear F5 F6 s6 s56 s7 s8 en7 hhd
 refine ⟨?_,?_⟩
 ·refine ⟨F8.tb,λH9 T9 s9=>?_⟩
  have F9:=F8.monoP T9 s9
  have ep9:=qq1 F8.tb s9 ep8 (λps z=>by cases z)
  have eh9:=qq1 F8.tb s9 eh8 (λps z=>by cases z)
  have out:∀(ww:Str) (HR:Hp) (r:Addr),Same H9 HR->HR r=some (.tup [.str ww])->qU8 (q32 rs n).length ns rs=ww->ww ≠ "" -> M1 C Pt [some (.ref p),some (.int n),some (.ref q),some (.ref t),some (.ref sh),some (.int i),some (.ref nl),some (.ref hd),some (.ref r),v9] HR:=λww HR r sR er hw hn =>
   ⟨p,q,t,dx,kp,bt,sh,nl,hd,r,n,m,ms,rs,ns,_,_,rfl,F9.mono sR,sR _ _ ep9,sR _ _ eh9,l20,.inl ⟨ww,hw,hn,er⟩⟩
  refine ⟨_,rfl,_,rfl,t,dx,kp,bt,hd,n,m,rs,ns,rfl,F9.tab,eh9,l20,n1,n12,F9.rows,λdu=>?_,λdu=>?_,λdu h0=>?_,λdu h0 a HA sA fa=>toldQ.mk λr hr'=>?_⟩
  ·intro dx' HA sA eA
   refine ⟨BP,dx', "no bundle",rfl,rfl,eA,Zp.s,Zp.k,λHB r sB hr'=>?_⟩
   exact out "no bundle" _ r (sA.trans' (sB.trans' (Same.new hr'))) q01 (by unfold qU8; rw [du]) (by decide)
  ·intro dx' HA sA eA
   refine ⟨BU,dx', "told twice",rfl,rfl,eA,Zu.s,Zu.k,λHB r sB hr'=>?_⟩
   exact out "told twice" _ r (sA.trans' (sB.trans' (Same.new hr'))) q01 (by unfold qU8; rw [du]) (by decide)
  ·intro dx' HA sA eA
   refine ⟨BS,dx', "empty",rfl,rfl,eA,X.sS,X.kS,λHB r sB hr'=>?_⟩
   exact out "empty" _ r (sA.trans' (sB.trans' (Same.new hr'))) q01 (by unfold qU8; rw [du,h0]; rfl) (by decide)
  ·have sr:=Same.new (o:=.tup [.str "told",.ref a]) hr'
   have sR:=sA.trans' sr
   refine ⟨p,q,t,dx,kp,bt,sh,nl,hd,r,n,m,ms,rs,ns,_,_,rfl,F9.mono sR,sR _ _ ep9,sR _ _ eh9,l20,.inr ⟨?_,du,a,q01,fa.mono sr⟩⟩
   unfold qU8
   rw [du]
   cases rs with
   | nil=>exact absurd rfl h0
   | cons x l=>rfl
 clear F8 ep8 eh8 l20 r63 n12 n1 e6
 rintro σ H9 ⟨p,q,t,dx,kp,bt,sh,nl,hd,r,n,m,ms,rs,ns,v5,v9,rfl,F9,ep9,eh9,l20,fd9⟩
 have n1:=F9.n1
 have n12:=F9.n12
 obtain ⟨bs,ebs,lbs⟩:∃ bs:List Addr,H9 sh=some (.lst (bs.map V.ref))/\bs.length=(q32 rs n).length:=by
  obtain ⟨bs,e,l,_⟩:=F9.es
  exact ⟨bs,e,by rw [l]; unfold bnl; rw [List.length_map]⟩
 refine ⟨_,rfl,_,rfl,_,rfl,q,sh,nl,_,rs,ns,rfl,ebs,ep9,l20,F9.eq,λHA sA=>?_⟩
 rw [List.length_map,lbs]
 have FA:=F9.mono sA
 have epA:=sA _ _ ep9
 have ehA:=sA _ _ eh9
 have fdA:=fd9.mono sA
 clear F9 ep9 eh9 fd9 sA ebs lbs
 have fin:∀(H':Hp) (v:Option V),Same HA H'->MI C Pt [some (.ref p),some (.int n),some (.ref q),some (.ref t),some (.ref sh),v5,some (.ref nl),some (.ref hd),some (.ref r),v] H':=λH' v s=>⟨p,q,t,dx,kp,bt,sh,n,m,ms,rs,_,_,_,_,_,rfl,FA.mono s⟩
 refine ⟨_,rfl,_,rfl,hd,nl,_,_,rfl,rfl,SqL.of ehA,SqL.of epA,qb6 _,qb6 _,_,rfl,?_⟩
 show if (!qX9 (ns.map V.int) (ns.map V.int))=true then _ else _
 rw [qH4,decide_eq_true rfl]
 refine q30 ?_
 rcases fdA with ⟨ww,hw,hn,er⟩ | ⟨hw,du,a,er,fa⟩
 ·rw [hw]
  have ne:V.str ww≠V.str "" := λw=>hn (by injection w)
  refine ⟨_,rfl,rfl,_,rfl,?_⟩
  show if (!decide (V.str ww=V.str ""))=true then _ else _
  rw [decide_eq_false ne]
  refine q48 ⟨_,rfl,_,rfl,q22 (show 1<=100 by decide),λT3 hT3=>?_⟩
  have s3:=Same.new (o:=.tup [.str ww]) hT3
  refine ⟨_,_,_,_,rfl,z96 (s3 _ _ er) (.str _),z96 q01 (.str _),(show 1 + max 0 0<=1 by decide),λHN sN=>⟨_,rfl,?_⟩⟩
  rw [eqb_t1]
  refine q30 ?_
  refine ⟨_,rfl,rfl,_,rfl,?_⟩
  show if decide (V.str ww=V.str "")=true then _ else _
  rw [decide_eq_false ne]
  refine q30 (q30 ?_)
  refine ⟨_,rfl,rfl,_,rfl,?_⟩
  show if decide (V.str ww=V.str "")=true then _ else _
  rw [decide_eq_false ne]
  exact q30 (q30 (fin _ _ (s3.trans' sN)))
 ·rw [hw]
  refine ⟨_,rfl,rfl,_,rfl,?_⟩
  show if (!decide (V.str ("" : Str)=V.str ""))=true then _ else _
  rw [decide_eq_true rfl]
  refine q30 (q30 ?_)
  refine ⟨_,rfl,rfl,_,rfl,?_⟩
  show if decide (V.str ("" : Str)=V.str "")=true then _ else _
  rw [decide_eq_true rfl]
  refine q48 ⟨_,rfl,r,_,_,_,rfl,rfl,SqT.of er,(show atI [V.str "told",V.ref a] ((0:Nat):Int)=some (.str "told") from q43 rfl),rfl,_,rfl,?_⟩
  show if (!decide (V.str ("told" : Str)=V.str ("told" : Str)))=true then _ else _
  rw [decide_eq_true rfl]
  refine q30 ?_
  refine ⟨_,rfl,rfl,_,rfl,?_⟩
  show if decide (V.str ("" : Str)=V.str "")=true then _ else _
  rw [decide_eq_true rfl]
  have rng:=(qw6 du).1
  refine q48 ⟨_,rfl,r,_,_,_,rfl,rfl,SqT.of er,(show atI [V.str "told",V.ref a] ((1:Nat):Int)=some (.ref a) from q43 rfl),_,rfl,_,rfl,_,rfl,_,rfl,a,q,sh,nl,n,rs,ns,rfl,fa,FA.eq,FA.es,epA,l20,(λz hz=>⟨(rng z hz).1,(rng z hz).2.1⟩),n1,n12,FA.rows,λHH sH=>⟨_,rfl,q30 ?_⟩⟩
  exact fin _ _ sH
end
end K19
namespace K19
open PySem L2
theorem all_mk {l:PySem.W.OpenLaw}{w:World}{K:PySem.W.Frag}{h:Heap}{mg:Str->Option Value}{fa fL cc Pt CT f1 f2 f3 f4 f5 f6 f7 f8 f9 f10 f11 f12 f13 f14 f15 f16 f17 f18 f19 f20 f21 f22 f23 f24 f25 f26 f27 f28 f29 f30 f31 f32 f33 f34 f35 f36 f37 f38 f39 f40 f41 f42 f43 f44 f45 f46 f47 f48 f49 f50 f51 f52 f53 f54 f55 f56 mf0 mf1 mf2 mf3 mf4 mf5:Addr}(X:K.In h) (G:h.Ns mainGlobals mg) (hfa:mg "law" = some (.ref fa))
  {odL anL od1 an1 od2 an2 od3 an3 od4 an4 od5 an5 od6 an6 od7 an7 od8 an8 od9 an9 od10 an10 od11 an11 od12 an12 od13 an13 od14 an14 od15 an15 od16 an16 od17 an17 od18 an18 od19 an19 od20 an20 od21 an21 od22 an22 od23 an23 od24 an24 od25 an25 od26 an26 od27 an27 od28 an28 od29 an29 od30 an30 od31 an31 od32 an32 od33 an33 od34 an34 od35 an35 od36 an36 od37 an37 od38 an38 od39 an39 od40 an40 od41 an41 od42 an42 od43 an43 od44 an44 od45 an45 od46 an46 od47 an47 od48 an48 od49 an49 od50 an50 od51 an51 od52 an52 od53 an53 od54 an54 od55 an55 od56 an56 mo0 ma0 mo1 ma1 mo2 ma2 mo3 ma3 mo4 ma4 mo5 ma5:Option Addr} {slL sl1 sl2 sl3 sl4 sl5 sl6 sl7 sl8 sl9 sl10 sl11 sl12 sl13 sl14 sl15 sl16 sl17 sl18 sl19 sl20 sl21 sl22 sl23 sl24 sl25 sl26 sl27 sl28 sl29 sl30 sl31 sl32 sl33 sl34 sl35 sl36 sl37 sl38 sl39 sl40 sl41 sl42 sl43 sl44 sl45 sl46 sl47 sl48 sl49 sl50 sl51 sl52 sl53 sl54 sl55 sl56 ms0 ms1 ms2 ms3 ms4 ms5:Array (Option Value)} {ocL kVL dcL pmL ctL oc1 kV1 dc1 pm1 cd1 ct1 oc2 kV2 dc2 pm2 cd2 ct2 oc3 kV3 dc3 pm3 cd3 ct3 oc4 kV4 dc4 pm4 cd4 ct4 oc5 kV5 dc5 pm5 cd5 ct5 oc6 kV6 dc6 pm6 cd6 ct6 oc7 kV7 dc7 pm7 cd7 ct7 oc8 kV8 dc8 pm8 cd8 ct8 oc9 kV9 dc9 pm9 cd9 ct9 oc10 kV10 dc10 pm10 cd10 ct10 oc11 kV11 dc11 pm11 cd11 ct11 oc12 kV12 dc12 pm12 cd12 ct12 oc13 kV13 dc13 pm13 cd13 ct13 oc14 kV14 dc14 pm14 cd14 ct14 oc15 kV15 dc15 pm15 cd15 ct15 oc16 kV16 dc16 pm16 cd16 ct16 oc17 kV17 dc17 pm17 cd17 ct17 oc18 kV18 dc18 pm18 cd18 ct18 oc19 kV19 dc19 pm19 cd19 ct19 oc20 kV20 dc20 pm20 cd20 ct20 oc21 kV21 dc21 pm21 cd21 ct21 oc22 kV22 dc22 pm22 cd22 ct22 oc23 kV23 dc23 pm23 cd23 ct23 oc24 kV24 dc24 pm24 cd24 ct24 oc25 kV25 dc25 pm25 cd25 ct25 oc26 kV26 dc26 pm26 cd26 ct26 oc27 kV27 dc27 pm27 cd27 ct27 oc28 kV28 dc28 pm28 cd28 ct28 oc29 kV29 dc29 pm29 cd29 ct29 oc30 kV30 dc30 pm30 cd30 ct30 oc31 kV31 dc31 pm31 cd31 ct31 oc32 kV32 dc32 pm32 cd32 ct32 oc33 kV33 dc33 pm33 cd33 ct33 oc34 kV34 dc34 pm34 cd34 ct34 oc35 kV35 dc35 pm35 cd35 ct35 oc36 kV36 dc36 pm36 cd36 ct36 oc37 kV37 dc37 pm37 cd37 ct37 oc38 kV38 dc38 pm38 cd38 ct38 oc39 kV39 dc39 pm39 cd39 ct39 oc40 kV40 dc40 pm40 cd40 ct40 oc41 kV41 dc41 pm41 cd41 ct41 oc42 kV42 dc42 pm42 cd42 ct42 oc43 kV43 dc43 pm43 cd43 ct43 oc44 kV44 dc44 pm44 cd44 ct44 oc45 kV45 dc45 pm45 cd45 ct45 oc46 kV46 dc46 pm46 cd46 ct46 oc47 kV47 dc47 pm47 cd47 ct47 oc48 kV48 dc48 pm48 cd48 ct48 oc49 kV49 dc49 pm49 cd49 ct49 oc50 kV50 dc50 pm50 cd50 ct50 oc51 kV51 dc51 pm51 cd51 ct51 oc52 kV52 dc52 pm52 cd52 ct52 oc53 kV53 dc53 pm53 cd53 ct53 oc54 kV54 dc54 pm54 cd54 ct54 oc55 kV55 dc55 pm55 cd55 ct55 oc56 kV56 dc56 pm56 cd56 ct56 mq0 mk0 md0 mp0 mc0 mt0 mq1 mk1 md1 mp1 mc1 mt1 mq2 mk2 md2 mp2 mc2 mt2 mq3 mk3 md3 mp3 mc3 mt3 mq4 mk4 md4 mp4 mc4 mt4 mq5 mk5 md5 mp5 mc5 mt5:Value}
  (aL:PySem.W.nsIn K mainGlobals "law" = some (some (.ref fL))) (lL:K.lookup fL=some ⟨ocL,odL,.func (PySem.W.fnOf "law" "law" (q10 qb1) (q08 qb1) (q02 qb1) .none kVL dcL pmL anL (.ref cc) ctL),slL⟩) (cL:PySem.W.codeIn K (.ref cc) "law" = true)
  {oZ:Value} {dZ:Option Addr} {vZ:Array Value} {sZ:Array (Option Value)} (lZ:K.lookup cc=some ⟨oZ,dZ,.fields vZ,sZ⟩) (hZ:vZ[11]? = some (.ref Pt)) (hH:PySem.W.codeHdIn K cc Pt=true)
  (a1:PySem.W.nsIn K mainGlobals "check_count" = some (some (.ref f1))) (l1:K.lookup f1=some ⟨oc1,od1,.func (PySem.W.fnOf "check_count" "check_count" (q10 q78) (q08 q78) (q02 q78) .none kV1 dc1 pm1 an1 cd1 ct1),sl1⟩) (c1:PySem.W.codeIn K cd1 "check_count" = true) (k1:PySem.W.keepIn K (.ref f1)=true)
  (a2:PySem.W.nsIn K mainGlobals "check_question" = some (some (.ref f2))) (l2:K.lookup f2=some ⟨oc2,od2,.func (PySem.W.fnOf "check_question" "check_question" (q10 qc8) (q08 qc8) (q02 qc8) .none kV2 dc2 pm2 an2 cd2 ct2),sl2⟩) (c2:PySem.W.codeIn K cd2 "check_question" = true) (k2:PySem.W.keepIn K (.ref f2)=true)
  (a3:PySem.W.nsIn K mainGlobals "check_sign" = some (some (.ref f3))) (l3:K.lookup f3=some ⟨oc3,od3,.func (PySem.W.fnOf "check_sign" "check_sign" (q10 qg8) (q08 qg8) (q02 qg8) .none kV3 dc3 pm3 an3 cd3 ct3),sl3⟩) (c3:PySem.W.codeIn K cd3 "check_sign" = true) (k3:PySem.W.keepIn K (.ref f3)=true)
  (a4:PySem.W.nsIn K mainGlobals "check_answers" = some (some (.ref f4))) (l4:K.lookup f4=some ⟨oc4,od4,.func (PySem.W.fnOf "check_answers" "check_answers" (q10 qo9) (q08 qo9) (q02 qo9) .none kV4 dc4 pm4 an4 cd4 ct4),sl4⟩) (c4:PySem.W.codeIn K cd4 "check_answers" = true) (k4:PySem.W.keepIn K (.ref f4)=true)
  (a5:PySem.W.nsIn K mainGlobals "check_untold" = some (some (.ref f5))) (l5:K.lookup f5=some ⟨oc5,od5,.func (PySem.W.fnOf "check_untold" "check_untold" (q10 qc0) (q08 qc0) (q02 qc0) .none kV5 dc5 pm5 an5 cd5 ct5),sl5⟩) (c5:PySem.W.codeIn K cd5 "check_untold" = true) (k5:PySem.W.keepIn K (.ref f5)=true)
  (a6:PySem.W.nsIn K mainGlobals "check_row" = some (some (.ref f6))) (l6:K.lookup f6=some ⟨oc6,od6,.func (PySem.W.fnOf "check_row" "check_row" (q10 qo6) (q08 qo6) (q02 qo6) .none kV6 dc6 pm6 an6 cd6 ct6),sl6⟩) (c6:PySem.W.codeIn K cd6 "check_row" = true) (k6:PySem.W.keepIn K (.ref f6)=true)
  (a7:PySem.W.nsIn K mainGlobals "check_pattern" = some (some (.ref f7))) (l7:K.lookup f7=some ⟨oc7,od7,.func (PySem.W.fnOf "check_pattern" "check_pattern" (q10 qo7) (q08 qo7) (q02 qo7) .none kV7 dc7 pm7 an7 cd7 ct7),sl7⟩) (c7:PySem.W.codeIn K cd7 "check_pattern" = true) (k7:PySem.W.keepIn K (.ref f7)=true)
  (a8:PySem.W.nsIn K mainGlobals "is_row" = some (some (.ref f8))) (l8:K.lookup f8=some ⟨oc8,od8,.func (PySem.W.fnOf "is_row" "is_row" (q10 qg6) (q08 qg6) (q02 qg6) .none kV8 dc8 pm8 an8 cd8 ct8),sl8⟩) (c8:PySem.W.codeIn K cd8 "is_row" = true) (k8:PySem.W.keepIn K (.ref f8)=true)
  (a9:PySem.W.nsIn K mainGlobals "is_pattern" = some (some (.ref f9))) (l9:K.lookup f9=some ⟨oc9,od9,.func (PySem.W.fnOf "is_pattern" "is_pattern" (q10 qg7) (q08 qg7) (q02 qg7) .none kV9 dc9 pm9 an9 cd9 ct9),sl9⟩) (c9:PySem.W.codeIn K cd9 "is_pattern" = true) (k9:PySem.W.keepIn K (.ref f9)=true)
  (a10:PySem.W.nsIn K mainGlobals "only_of" = some (some (.ref f10))) (l10:K.lookup f10=some ⟨oc10,od10,.func (PySem.W.fnOf "only_of" "only_of" (q10 qh6) (q08 qh6) (q02 qh6) .none kV10 dc10 pm10 an10 cd10 ct10),sl10⟩) (c10:PySem.W.codeIn K cd10 "only_of" = true) (k10:PySem.W.keepIn K (.ref f10)=true)
  (a11:PySem.W.nsIn K mainGlobals "with_answer" = some (some (.ref f11))) (l11:K.lookup f11=some ⟨oc11,od11,.func (PySem.W.fnOf "with_answer" "with_answer" (q10 ql5) (q08 ql5) (q02 ql5) .none kV11 dc11 pm11 an11 cd11 ct11),sl11⟩) (c11:PySem.W.codeIn K cd11 "with_answer" = true) (k11:PySem.W.keepIn K (.ref f11)=true)
  (a12:PySem.W.nsIn K mainGlobals "bundles" = some (some (.ref f12))) (l12:K.lookup f12=some ⟨oc12,od12,.func (PySem.W.fnOf "bundles" "bundles" (q10 q80) (q08 q80) (q02 q80) .none kV12 dc12 pm12 an12 cd12 ct12),sl12⟩) (c12:PySem.W.codeIn K cd12 "bundles" = true) (k12:PySem.W.keepIn K (.ref f12)=true)
  (a13:PySem.W.nsIn K mainGlobals "crossing" = some (some (.ref f13))) (l13:K.lookup f13=some ⟨oc13,od13,.func (PySem.W.fnOf "crossing" "crossing" (q10 q74) (q08 q74) (q02 q74) .none kV13 dc13 pm13 an13 cd13 ct13),sl13⟩) (c13:PySem.W.codeIn K cd13 "crossing" = true) (k13:PySem.W.keepIn K (.ref f13)=true)
  (a14:PySem.W.nsIn K mainGlobals "lowest_questions" = some (some (.ref f14))) (l14:K.lookup f14=some ⟨oc14,od14,.func (PySem.W.fnOf "lowest_questions" "lowest_questions" (q10 qa5) (q08 qa5) (q02 qa5) .none kV14 dc14 pm14 an14 cd14 ct14),sl14⟩) (c14:PySem.W.codeIn K cd14 "lowest_questions" = true) (k14:PySem.W.keepIn K (.ref f14)=true)
  (a15:PySem.W.nsIn K mainGlobals "is_open" = some (some (.ref f15))) (l15:K.lookup f15=some ⟨oc15,od15,.func (PySem.W.fnOf "is_open" "is_open" (q10 qc6) (q08 qc6) (q02 qc6) .none kV15 dc15 pm15 an15 cd15 ct15),sl15⟩) (c15:PySem.W.codeIn K cd15 "is_open" = true) (k15:PySem.W.keepIn K (.ref f15)=true)
  (a16:PySem.W.nsIn K mainGlobals "bundle_from" = some (some (.ref f16))) (l16:K.lookup f16=some ⟨oc16,od16,.func (PySem.W.fnOf "bundle_from" "bundle_from" (q10 qh0) (q08 qh0) (q02 qh0) .none kV16 dc16 pm16 an16 cd16 ct16),sl16⟩) (c16:PySem.W.codeIn K cd16 "bundle_from" = true) (k16:PySem.W.keepIn K (.ref f16)=true)
  (a17:PySem.W.nsIn K mainGlobals "answer_along" = some (some (.ref f17))) (l17:K.lookup f17=some ⟨oc17,od17,.func (PySem.W.fnOf "answer_along" "answer_along" (q10 qh1) (q08 qh1) (q02 qh1) .none kV17 dc17 pm17 an17 cd17 ct17),sl17⟩) (c17:PySem.W.codeIn K cd17 "answer_along" = true) (k17:PySem.W.keepIn K (.ref f17)=true)
  (a18:PySem.W.nsIn K mainGlobals "cross" = some (some (.ref f18))) (l18:K.lookup f18=some ⟨oc18,od18,.func (PySem.W.fnOf "cross" "cross" (q10 qg9) (q08 qg9) (q02 qg9) .none kV18 dc18 pm18 an18 cd18 ct18),sl18⟩) (c18:PySem.W.codeIn K cd18 "cross" = true) (k18:PySem.W.keepIn K (.ref f18)=true)
  (a19:PySem.W.nsIn K mainGlobals "check_filled" = some (some (.ref f19))) (l19:K.lookup f19=some ⟨oc19,od19,.func (PySem.W.fnOf "check_filled" "check_filled" (q10 q97) (q08 q97) (q02 q97) .none kV19 dc19 pm19 an19 cd19 ct19),sl19⟩) (c19:PySem.W.codeIn K cd19 "check_filled" = true) (k19:PySem.W.keepIn K (.ref f19)=true)
  (a20:PySem.W.nsIn K mainGlobals "meeting" = some (some (.ref f20))) (l20:K.lookup f20=some ⟨oc20,od20,.func (PySem.W.fnOf "meeting" "meeting" (q10 q93) (q08 q93) (q02 q93) .none kV20 dc20 pm20 an20 cd20 ct20),sl20⟩) (c20:PySem.W.codeIn K cd20 "meeting" = true) (k20:PySem.W.keepIn K (.ref f20)=true)
  (a21:PySem.W.nsIn K mainGlobals "joined" = some (some (.ref f21))) (l21:K.lookup f21=some ⟨oc21,od21,.func (PySem.W.fnOf "joined" "joined" (q10 qa6) (q08 qa6) (q02 qa6) .none kV21 dc21 pm21 an21 cd21 ct21),sl21⟩) (c21:PySem.W.codeIn K cd21 "joined" = true) (k21:PySem.W.keepIn K (.ref f21)=true)
  (a22:PySem.W.nsIn K mainGlobals "gaps" = some (some (.ref f22))) (l22:K.lookup f22=some ⟨oc22,od22,.func (PySem.W.fnOf "gaps" "gaps" (q10 qo5) (q08 qo5) (q02 qo5) .none kV22 dc22 pm22 an22 cd22 ct22),sl22⟩) (c22:PySem.W.codeIn K cd22 "gaps" = true) (k22:PySem.W.keepIn K (.ref f22)=true)
  (a23:PySem.W.nsIn K mainGlobals "pairs_given" = some (some (.ref f23))) (l23:K.lookup f23=some ⟨oc23,od23,.func (PySem.W.fnOf "pairs_given" "pairs_given" (q10 s_pg) (q08 s_pg) (q02 s_pg) .none kV23 dc23 pm23 an23 cd23 ct23),sl23⟩) (c23:PySem.W.codeIn K cd23 "pairs_given" = true) (k23:PySem.W.keepIn K (.ref f23)=true)
  (a24:PySem.W.nsIn K mainGlobals "answers" = some (some (.ref f24))) (l24:K.lookup f24=some ⟨oc24,od24,.func (PySem.W.fnOf "answers" "answers" (q10 qu3) (q08 qu3) (q02 qu3) .none kV24 dc24 pm24 an24 cd24 ct24),sl24⟩) (c24:PySem.W.codeIn K cd24 "answers" = true) (k24:PySem.W.keepIn K (.ref f24)=true)
  (a25:PySem.W.nsIn K mainGlobals "open_places" = some (some (.ref f25))) (l25:K.lookup f25=some ⟨oc25,od25,.func (PySem.W.fnOf "open_places" "open_places" (q10 qo4) (q08 qo4) (q02 qo4) .none kV25 dc25 pm25 an25 cd25 ct25),sl25⟩) (c25:PySem.W.codeIn K cd25 "open_places" = true) (k25:PySem.W.keepIn K (.ref f25)=true)
  (a26:PySem.W.nsIn K mainGlobals "fits" = some (some (.ref f26))) (l26:K.lookup f26=some ⟨oc26,od26,.func (PySem.W.fnOf "fits" "fits" (q10 ql9) (q08 ql9) (q02 ql9) .none kV26 dc26 pm26 an26 cd26 ct26),sl26⟩) (c26:PySem.W.codeIn K cd26 "fits" = true) (k26:PySem.W.keepIn K (.ref f26)=true)
  (a27:PySem.W.nsIn K mainGlobals "fill" = some (some (.ref f27))) (l27:K.lookup f27=some ⟨oc27,od27,.func (PySem.W.fnOf "fill" "fill" (q10 qf7) (q08 qf7) (q02 qf7) .none kV27 dc27 pm27 an27 cd27 ct27),sl27⟩) (c27:PySem.W.codeIn K cd27 "fill" = true) (k27:PySem.W.keepIn K (.ref f27)=true)
  (a28:PySem.W.nsIn K mainGlobals "free_at" = some (some (.ref f28))) (l28:K.lookup f28=some ⟨oc28,od28,.func (PySem.W.fnOf "free_at" "free_at" (q10 ql8) (q08 ql8) (q02 ql8) .none kV28 dc28 pm28 an28 cd28 ct28),sl28⟩) (c28:PySem.W.codeIn K cd28 "free_at" = true) (k28:PySem.W.keepIn K (.ref f28)=true)
  (a29:PySem.W.nsIn K mainGlobals "check_numbers" = some (some (.ref f29))) (l29:K.lookup f29=some ⟨oc29,od29,.func (PySem.W.fnOf "check_numbers" "check_numbers" (q10 qo8) (q08 qo8) (q02 qo8) .none kV29 dc29 pm29 an29 cd29 ct29),sl29⟩) (c29:PySem.W.codeIn K cd29 "check_numbers" = true) (k29:PySem.W.keepIn K (.ref f29)=true)
  (a30:PySem.W.nsIn K mainGlobals "pairs" = some (some (.ref f30))) (l30:K.lookup f30=some ⟨oc30,od30,.func (PySem.W.fnOf "pairs" "pairs" (q10 qg4) (q08 qg4) (q02 qg4) .none kV30 dc30 pm30 an30 cd30 ct30),sl30⟩) (c30:PySem.W.codeIn K cd30 "pairs" = true) (k30:PySem.W.keepIn K (.ref f30)=true)
  (a31:PySem.W.nsIn K mainGlobals "leave_to_turn" = some (some (.ref f31))) (l31:K.lookup f31=some ⟨oc31,od31,.func (PySem.W.fnOf "leave_to_turn" "leave_to_turn" (q10 qg5) (q08 qg5) (q02 qg5) .none kV31 dc31 pm31 an31 cd31 ct31),sl31⟩) (c31:PySem.W.codeIn K cd31 "leave_to_turn" = true) (k31:PySem.W.keepIn K (.ref f31)=true)
  (a32:PySem.W.nsIn K mainGlobals "answer_with_both" = some (some (.ref f32))) (l32:K.lookup f32=some ⟨oc32,od32,.func (PySem.W.fnOf "answer_with_both" "answer_with_both" (q10 s_aw) (q08 s_aw) (q02 s_aw) .none kV32 dc32 pm32 an32 cd32 ct32),sl32⟩) (c32:PySem.W.codeIn K cd32 "answer_with_both" = true) (k32:PySem.W.keepIn K (.ref f32)=true)
  (a33:PySem.W.nsIn K mainGlobals "_law_cell" = some (some (.ref f33))) (l33:K.lookup f33=some ⟨oc33,od33,.func (PySem.W.fnOf "_law_cell" "_law_cell" (q10 qm0) (q08 qm0) (q02 qm0) .none kV33 dc33 pm33 an33 cd33 ct33),sl33⟩) (c33:PySem.W.codeIn K cd33 "_law_cell" = true) (k33:PySem.W.keepIn K (.ref f33)=true)
  (a34:PySem.W.nsIn K mainGlobals "_law_draws" = some (some (.ref f34))) (l34:K.lookup f34=some ⟨oc34,od34,.func (PySem.W.fnOf "_law_draws" "_law_draws" (q10 q95) (q08 q95) (q02 q95) .none kV34 dc34 pm34 an34 cd34 ct34),sl34⟩) (c34:PySem.W.codeIn K cd34 "_law_draws" = true) (k34:PySem.W.keepIn K (.ref f34)=true)
  (a35:PySem.W.nsIn K mainGlobals "_law_same" = some (some (.ref f35))) (l35:K.lookup f35=some ⟨oc35,od35,.func (PySem.W.fnOf "_law_same" "_law_same" (q10 ql6) (q08 ql6) (q02 ql6) .none kV35 dc35 pm35 an35 cd35 ct35),sl35⟩) (c35:PySem.W.codeIn K cd35 "_law_same" = true) (k35:PySem.W.keepIn K (.ref f35)=true)
  (a36:PySem.W.nsIn K mainGlobals "_law_not" = some (some (.ref f36))) (l36:K.lookup f36=some ⟨oc36,od36,.func (PySem.W.fnOf "_law_not" "_law_not" (q10 qz0) (q08 qz0) (q02 qz0) .none kV36 dc36 pm36 an36 cd36 ct36),sl36⟩) (c36:PySem.W.codeIn K cd36 "_law_not" = true) (k36:PySem.W.keepIn K (.ref f36)=true)
  (a37:PySem.W.nsIn K mainGlobals "_law_hidden" = some (some (.ref f37))) (l37:K.lookup f37=some ⟨oc37,od37,.func (PySem.W.fnOf "_law_hidden" "_law_hidden" (q10 qc7) (q08 qc7) (q02 qc7) .none kV37 dc37 pm37 an37 cd37 ct37),sl37⟩) (c37:PySem.W.codeIn K cd37 "_law_hidden" = true) (k37:PySem.W.keepIn K (.ref f37)=true)
  (a38:PySem.W.nsIn K mainGlobals "_law_bits" = some (some (.ref f38))) (l38:K.lookup f38=some ⟨oc38,od38,.func (PySem.W.fnOf "_law_bits" "_law_bits" (q10 qp0) (q08 qp0) (q02 qp0) .none kV38 dc38 pm38 an38 cd38 ct38),sl38⟩) (c38:PySem.W.codeIn K cd38 "_law_bits" = true) (k38:PySem.W.keepIn K (.ref f38)=true)
  (a39:PySem.W.nsIn K mainGlobals "_law_row_by" = some (some (.ref f39))) (l39:K.lookup f39=some ⟨oc39,od39,.func (PySem.W.fnOf "_law_row_by" "_law_row_by" (q10 qg3) (q08 qg3) (q02 qg3) .none kV39 dc39 pm39 an39 cd39 ct39),sl39⟩) (c39:PySem.W.codeIn K cd39 "_law_row_by" = true) (k39:PySem.W.keepIn K (.ref f39)=true)
  (a40:PySem.W.nsIn K mainGlobals "_law_plan" = some (some (.ref f40))) (l40:K.lookup f40=some ⟨oc40,od40,.func (PySem.W.fnOf "_law_plan" "_law_plan" (q10 qo3) (q08 qo3) (q02 qo3) .none kV40 dc40 pm40 an40 cd40 ct40),sl40⟩) (c40:PySem.W.codeIn K cd40 "_law_plan" = true) (k40:PySem.W.keepIn K (.ref f40)=true)
  (a41:PySem.W.nsIn K mainGlobals "_law_rows" = some (some (.ref f41))) (l41:K.lookup f41=some ⟨oc41,od41,.func (PySem.W.fnOf "_law_rows" "_law_rows" (q10 qo2) (q08 qo2) (q02 qo2) .none kV41 dc41 pm41 an41 cd41 ct41),sl41⟩) (c41:PySem.W.codeIn K cd41 "_law_rows" = true) (k41:PySem.W.keepIn K (.ref f41)=true)
  (a42:PySem.W.nsIn K mainGlobals "_law_count" = some (some (.ref f42))) (l42:K.lookup f42=some ⟨oc42,od42,.func (PySem.W.fnOf "_law_count" "_law_count" (q10 q69) (q08 q69) (q02 q69) .none kV42 dc42 pm42 an42 cd42 ct42),sl42⟩) (c42:PySem.W.codeIn K cd42 "_law_count" = true) (k42:PySem.W.keepIn K (.ref f42)=true)
  (a43:PySem.W.nsIn K mainGlobals "_law_table" = some (some (.ref f43))) (l43:K.lookup f43=some ⟨oc43,od43,.func (PySem.W.fnOf "_law_table" "_law_table" (q10 qc4) (q08 qc4) (q02 qc4) .none kV43 dc43 pm43 an43 cd43 ct43),sl43⟩) (c43:PySem.W.codeIn K cd43 "_law_table" = true) (k43:PySem.W.keepIn K (.ref f43)=true)
  (a44:PySem.W.nsIn K mainGlobals "_law_setup" = some (some (.ref f44))) (l44:K.lookup f44=some ⟨oc44,od44,.func (PySem.W.fnOf "_law_setup" "_law_setup" (q10 qg2) (q08 qg2) (q02 qg2) .none kV44 dc44 pm44 an44 cd44 ct44),sl44⟩) (c44:PySem.W.codeIn K cd44 "_law_setup" = true) (k44:PySem.W.keepIn K (.ref f44)=true)
  (a45:PySem.W.nsIn K mainGlobals "_law_bears" = some (some (.ref f45))) (l45:K.lookup f45=some ⟨oc45,od45,.func (PySem.W.fnOf "_law_bears" "_law_bears" (q10 qc9) (q08 qc9) (q02 qc9) .none kV45 dc45 pm45 an45 cd45 ct45),sl45⟩) (c45:PySem.W.codeIn K cd45 "_law_bears" = true) (k45:PySem.W.keepIn K (.ref f45)=true)
  (a46:PySem.W.nsIn K mainGlobals "_law_lacks" = some (some (.ref f46))) (l46:K.lookup f46=some ⟨oc46,od46,.func (PySem.W.fnOf "_law_lacks" "_law_lacks" (q10 qc5) (q08 qc5) (q02 qc5) .none kV46 dc46 pm46 an46 cd46 ct46),sl46⟩) (c46:PySem.W.codeIn K cd46 "_law_lacks" = true) (k46:PySem.W.keepIn K (.ref f46)=true)
  (a47:PySem.W.nsIn K mainGlobals "_law_bundles" = some (some (.ref f47))) (l47:K.lookup f47=some ⟨oc47,od47,.func (PySem.W.fnOf "_law_bundles" "_law_bundles" (q10 ql7) (q08 ql7) (q02 ql7) .none kV47 dc47 pm47 an47 cd47 ct47),sl47⟩) (c47:PySem.W.codeIn K cd47 "_law_bundles" = true) (k47:PySem.W.keepIn K (.ref f47)=true)
  (a48:PySem.W.nsIn K mainGlobals "_law_turned" = some (some (.ref f48))) (l48:K.lookup f48=some ⟨oc48,od48,.func (PySem.W.fnOf "_law_turned" "_law_turned" (q10 q94) (q08 q94) (q02 q94) .none kV48 dc48 pm48 an48 cd48 ct48),sl48⟩) (c48:PySem.W.codeIn K cd48 "_law_turned" = true) (k48:PySem.W.keepIn K (.ref f48)=true)
  (a49:PySem.W.nsIn K mainGlobals "_law_cross" = some (some (.ref f49))) (l49:K.lookup f49=some ⟨oc49,od49,.func (PySem.W.fnOf "_law_cross" "_law_cross" (q10 q51) (q08 q51) (q02 q51) .none kV49 dc49 pm49 an49 cd49 ct49),sl49⟩) (c49:PySem.W.codeIn K cd49 "_law_cross" = true) (k49:PySem.W.keepIn K (.ref f49)=true)
  (a50:PySem.W.nsIn K mainGlobals "_law_choices" = some (some (.ref f50))) (l50:K.lookup f50=some ⟨oc50,od50,.func (PySem.W.fnOf "_law_choices" "_law_choices" (q10 q96) (q08 q96) (q02 q96) .none kV50 dc50 pm50 an50 cd50 ct50),sl50⟩) (c50:PySem.W.codeIn K cd50 "_law_choices" = true) (k50:PySem.W.keepIn K (.ref f50)=true)
  (a51:PySem.W.nsIn K mainGlobals "_law_word" = some (some (.ref f51))) (l51:K.lookup f51=some ⟨oc51,od51,.func (PySem.W.fnOf "_law_word" "_law_word" (q10 qo0) (q08 qo0) (q02 qo0) .none kV51 dc51 pm51 an51 cd51 ct51),sl51⟩) (c51:PySem.W.codeIn K cd51 "_law_word" = true) (k51:PySem.W.keepIn K (.ref f51)=true)
  (a52:PySem.W.nsIn K mainGlobals "_law_numbers" = some (some (.ref f52))) (l52:K.lookup f52=some ⟨oc52,od52,.func (PySem.W.fnOf "_law_numbers" "_law_numbers" (q10 q79) (q08 q79) (q02 q79) .none kV52 dc52 pm52 an52 cd52 ct52),sl52⟩) (c52:PySem.W.codeIn K cd52 "_law_numbers" = true) (k52:PySem.W.keepIn K (.ref f52)=true)
  (a53:PySem.W.nsIn K mainGlobals "_law_word_due" = some (some (.ref f53))) (l53:K.lookup f53=some ⟨oc53,od53,.func (PySem.W.fnOf "_law_word_due" "_law_word_due" (q10 qz1) (q08 qz1) (q02 qz1) .none kV53 dc53 pm53 an53 cd53 ct53),sl53⟩) (c53:PySem.W.codeIn K cd53 "_law_word_due" = true) (k53:PySem.W.keepIn K (.ref f53)=true)
  (a54:PySem.W.nsIn K mainGlobals "_law_some_choices" = some (some (.ref f54))) (l54:K.lookup f54=some ⟨oc54,od54,.func (PySem.W.fnOf "_law_some_choices" "_law_some_choices" (q10 qo1) (q08 qo1) (q02 qo1) .none kV54 dc54 pm54 an54 cd54 ct54),sl54⟩) (c54:PySem.W.codeIn K cd54 "_law_some_choices" = true) (k54:PySem.W.keepIn K (.ref f54)=true)
  (a55:PySem.W.nsIn K mainGlobals "_law_holds" = some (some (.ref f55))) (l55:K.lookup f55=some ⟨oc55,od55,.func (PySem.W.fnOf "_law_holds" "_law_holds" (q10 qe3) (q08 qe3) (q02 qe3) .none kV55 dc55 pm55 an55 cd55 ct55),sl55⟩) (c55:PySem.W.codeIn K cd55 "_law_holds" = true) (k55:PySem.W.keepIn K (.ref f55)=true)
  (a56:PySem.W.nsIn K mainGlobals "law" = some (some (.ref f56))) (l56:K.lookup f56=some ⟨oc56,od56,.func (PySem.W.fnOf "law" "law" (q10 qb1) (q08 qb1) (q02 qb1) .none kV56 dc56 pm56 an56 cd56 ct56),sl56⟩) (c56:PySem.W.codeIn K cd56 "law" = true) (k56:PySem.W.keepIn K (.ref f56)=true)
  {XW iW NW:Addr} {nmW qnW:Str} {bsW bmW sbW:List Value} {snW:List Str} {abW:Bool} {coW:Option Bool} {ddW:Option Addr} {x0W x1W x2W x3W x5W:Option Value} {oiW kiW diW piW ciW tiW:Value} {ojW aiW:Option Addr} {siW:Array (Option Value)}
  (mW:PySem.W.nsIn K mainGlobals "WapentakeError" = some (some (.ref XW))) (oW:K.lookup XW=some (excClassObj nmW qnW XW NW bsW bmW true snW sbW abW coW ddW x0W x1W x2W x3W x5W "ValueError.__new__"))
  (vW:XBases bmW) (saW:PySem.W.findIn K (.ref XW) "__setattr__" = some (some (.builtin "object.__setattr__"))) (gaW:PySem.W.findIn K (.ref XW) "__getattribute__" = some (some (.builtin "BaseException.__getattribute__"))) (gnW:PySem.W.findIn K (.ref XW) "__getattr__" = some none) (nwW:PySem.W.findIn K (.ref XW) "word" = some none)
  (inW:PySem.W.findIn K (.ref XW) "__init__" = some (some (.ref iW))) (ifW:PySem.W.isFn K (.ref iW)=true) (kpW:PySem.W.keepIn K (.ref XW)=true) (liW:K.lookup iW=some ⟨oiW,ojW,.func (PySem.W.fnOf "__init__" "WapentakeError.__init__" (q10 qj8) (q08 qj8) (q02 qj8) .none kiW diW piW aiW ciW tiW),siW⟩) (cdW:PySem.W.codeIn K ciW "WapentakeError.__init__" = true) (keW:PySem.W.keepIn K (.ref iW)=true)
  {XC iC NC:Addr} {nmC qnC:Str} {bsC bmC sbC:List Value} {snC:List Str} {abC:Bool} {coC:Option Bool} {ddC:Option Addr} {x0C x1C x2C x3C x5C:Option Value} {oiC kiC diC piC ciC tiC:Value} {ojC aiC:Option Addr} {siC:Array (Option Value)}
  (mC:PySem.W.nsIn K mainGlobals "BadPattern" = some (some (.ref XC))) (oC:K.lookup XC=some (excClassObj nmC qnC XC NC bsC bmC true snC sbC abC coC ddC x0C x1C x2C x3C x5C "ValueError.__new__"))
  (vC:XBases bmC) (saC:PySem.W.findIn K (.ref XC) "__setattr__" = some (some (.builtin "object.__setattr__"))) (gaC:PySem.W.findIn K (.ref XC) "__getattribute__" = some (some (.builtin "BaseException.__getattribute__"))) (gnC:PySem.W.findIn K (.ref XC) "__getattr__" = some none) (nwC:PySem.W.findIn K (.ref XC) "word" = some none)
  (inC:PySem.W.findIn K (.ref XC) "__init__" = some (some (.ref iC))) (ifC:PySem.W.isFn K (.ref iC)=true) (kpC:PySem.W.keepIn K (.ref XC)=true) (liC:K.lookup iC=some ⟨oiC,ojC,.func (PySem.W.fnOf "__init__" "BadPattern.__init__" (q10 qk0) (q08 qk0) (q02 qk0) .none kiC diC piC aiC ciC tiC),siC⟩) (cdC:PySem.W.codeIn K ciC "BadPattern.__init__" = true) (keC:PySem.W.keepIn K (.ref iC)=true)
  {XS iS NS:Addr} {nmS qnS:Str} {bsS bmS sbS:List Value} {snS:List Str} {abS:Bool} {coS:Option Bool} {ddS:Option Addr} {x0S x1S x2S x3S x5S:Option Value} {oiS kiS diS piS ciS tiS:Value} {ojS aiS:Option Addr} {siS:Array (Option Value)}
  (mS:PySem.W.nsIn K mainGlobals "Empty" = some (some (.ref XS))) (oS:K.lookup XS=some (excClassObj nmS qnS XS NS bsS bmS true snS sbS abS coS ddS x0S x1S x2S x3S x5S "ValueError.__new__"))
  (vS:XBases bmS) (saS:PySem.W.findIn K (.ref XS) "__setattr__" = some (some (.builtin "object.__setattr__"))) (gaS:PySem.W.findIn K (.ref XS) "__getattribute__" = some (some (.builtin "BaseException.__getattribute__"))) (gnS:PySem.W.findIn K (.ref XS) "__getattr__" = some none) (nwS:PySem.W.findIn K (.ref XS) "word" = some none)
  (inS:PySem.W.findIn K (.ref XS) "__init__" = some (some (.ref iS))) (ifS:PySem.W.isFn K (.ref iS)=true) (kpS:PySem.W.keepIn K (.ref XS)=true) (liS:K.lookup iS=some ⟨oiS,ojS,.func (PySem.W.fnOf "__init__" "Empty.__init__" (q10 qj9) (q08 qj9) (q02 qj9) .none kiS diS piS aiS ciS tiS),siS⟩) (cdS:PySem.W.codeIn K ciS "Empty.__init__" = true) (keS:PySem.W.keepIn K (.ref iS)=true)
  {XP iP NP:Addr} {nmP qnP:Str} {bsP bmP sbP:List Value} {snP:List Str} {abP:Bool} {coP:Option Bool} {ddP:Option Addr} {x0P x1P x2P x3P x5P:Option Value} {oiP kiP diP piP ciP tiP:Value} {ojP aiP:Option Addr} {siP:Array (Option Value)}
  (mP:PySem.W.nsIn K mainGlobals "NoBundle" = some (some (.ref XP))) (oP:K.lookup XP=some (excClassObj nmP qnP XP NP bsP bmP true snP sbP abP coP ddP x0P x1P x2P x3P x5P "ValueError.__new__"))
  (vP:XBases bmP) (saP:PySem.W.findIn K (.ref XP) "__setattr__" = some (some (.builtin "object.__setattr__"))) (gaP:PySem.W.findIn K (.ref XP) "__getattribute__" = some (some (.builtin "BaseException.__getattribute__"))) (gnP:PySem.W.findIn K (.ref XP) "__getattr__" = some none) (nwP:PySem.W.findIn K (.ref XP) "word" = some none)
  (inP:PySem.W.findIn K (.ref XP) "__init__" = some (some (.ref iP))) (ifP:PySem.W.isFn K (.ref iP)=true) (kpP:PySem.W.keepIn K (.ref XP)=true) (liP:K.lookup iP=some ⟨oiP,ojP,.func (PySem.W.fnOf "__init__" "NoBundle.__init__" (q10 qc3) (q08 qc3) (q02 qc3) .none kiP diP piP aiP ciP tiP),siP⟩) (cdP:PySem.W.codeIn K ciP "NoBundle.__init__" = true) (keP:PySem.W.keepIn K (.ref iP)=true)
  {XU iU NU:Addr} {nmU qnU:Str} {bsU bmU sbU:List Value} {snU:List Str} {abU:Bool} {coU:Option Bool} {ddU:Option Addr} {x0U x1U x2U x3U x5U:Option Value} {oiU kiU diU piU ciU tiU:Value} {ojU aiU:Option Addr} {siU:Array (Option Value)}
  (mU:PySem.W.nsIn K mainGlobals "Twice" = some (some (.ref XU))) (oU:K.lookup XU=some (excClassObj nmU qnU XU NU bsU bmU true snU sbU abU coU ddU x0U x1U x2U x3U x5U "ValueError.__new__"))
  (vU:XBases bmU) (saU:PySem.W.findIn K (.ref XU) "__setattr__" = some (some (.builtin "object.__setattr__"))) (gaU:PySem.W.findIn K (.ref XU) "__getattribute__" = some (some (.builtin "BaseException.__getattribute__"))) (gnU:PySem.W.findIn K (.ref XU) "__getattr__" = some none) (nwU:PySem.W.findIn K (.ref XU) "word" = some none)
  (inU:PySem.W.findIn K (.ref XU) "__init__" = some (some (.ref iU))) (ifU:PySem.W.isFn K (.ref iU)=true) (kpU:PySem.W.keepIn K (.ref XU)=true) (liU:K.lookup iU=some ⟨oiU,ojU,.func (PySem.W.fnOf "__init__" "Twice.__init__" (q10 qc1) (q08 qc1) (q02 qc1) .none kiU diU piU aiU ciU tiU),siU⟩) (cdU:PySem.W.codeIn K ciU "Twice.__init__" = true) (keU:PySem.W.keepIn K (.ref iU)=true)
  (uC:(Value.ref XC :: bmC).contains (.ref XW)=true) (uS:(Value.ref XS :: bmS).contains (.ref XW)=true)
  (wg:PySem.W.specialIn K (.ref XW) "__getattribute__" = some (some (.builtin "type.__getattribute__"))) (wr:PySem.W.readsIn K XW (.type "type")=true) (wf:PySem.W.findCls K (.ref XW) (.type "type") "__init__" = some (.val (.ref iW)))
  (gv:PySem.W.nsIn K mainGlobals "ValueError" = some none)
  (uP:(Value.ref XP :: bmP).contains (.ref XW)=true)
  (uU:(Value.ref XU :: bmU).contains (.ref XW)=true)
  (tC:PySem.W.nsIn K mainGlobals "Table" = some (some (.ref CT))) (t1:PySem.W.plainGet K CT Str.empty=true) (t2:PySem.W.hasDictIn K CT=true) (t3:PySem.W.plainOver K CT=true) (t4:PySem.W.findIn K (.ref CT) "__setattr__" = some (some (.builtin "object.__setattr__"))) (t5:PySem.W.makesIn K CT=true) (t6:PySem.W.keepIn K (.ref CT)=true)
  (n_questions:PySem.W.findIn K (.ref CT) "questions" = some none)
  (n_kept:PySem.W.findIn K (.ref CT) "kept" = some none)
  (n_both:PySem.W.findIn K (.ref CT) "both" = some none)
  (ha0:PySem.W.findIn K (.ref CT) "__init__" = some (some (.ref mf0))) (hf0:PySem.W.isFn K (.ref mf0)=true) (hl0:K.lookup mf0=some ⟨mq0,mo0,.func (PySem.W.fnOf "__init__" "Table.__init__" (q10 qr8) (q08 qr8) (q02 qr8) .none mk0 md0 mp0 ma0 mc0 mt0),ms0⟩) (hc0:PySem.W.codeIn K mc0 "Table.__init__" = true) (hk0:PySem.W.keepIn K (.ref mf0)=true)
  (ha1:PySem.W.findIn K (.ref CT) "add" = some (some (.ref mf1))) (hf1:PySem.W.isFn K (.ref mf1)=true) (hl1:K.lookup mf1=some ⟨mq1,mo1,.func (PySem.W.fnOf "add" "Table.add" (q10 qB9) (q08 qB9) (q02 qB9) .none mk1 md1 mp1 ma1 mc1 mt1),ms1⟩) (hc1:PySem.W.codeIn K mc1 "Table.add" = true) (hk1:PySem.W.keepIn K (.ref mf1)=true)
  (ha2:PySem.W.findIn K (.ref CT) "take" = some (some (.ref mf2))) (hf2:PySem.W.isFn K (.ref mf2)=true) (hl2:K.lookup mf2=some ⟨mq2,mo2,.func (PySem.W.fnOf "take" "Table.take" (q10 qy9) (q08 qy9) (q02 qy9) .none mk2 md2 mp2 ma2 mc2 mt2),ms2⟩) (hc2:PySem.W.codeIn K mc2 "Table.take" = true) (hk2:PySem.W.keepIn K (.ref mf2)=true)
  (ha3:PySem.W.findIn K (.ref CT) "tally" = some (some (.ref mf3))) (hf3:PySem.W.isFn K (.ref mf3)=true) (hl3:K.lookup mf3=some ⟨mq3,mo3,.func (PySem.W.fnOf "tally" "Table.tally" (q10 qg1) (q08 qg1) (q02 qg1) .none mk3 md3 mp3 ma3 mc3 mt3),ms3⟩) (hc3:PySem.W.codeIn K mc3 "Table.tally" = true) (hk3:PySem.W.keepIn K (.ref mf3)=true)
  (ha4:PySem.W.findIn K (.ref CT) "many" = some (some (.ref mf4))) (hf4:PySem.W.isFn K (.ref mf4)=true) (hl4:K.lookup mf4=some ⟨mq4,mo4,.func (PySem.W.fnOf "many" "Table.many" (q10 qr7) (q08 qr7) (q02 qr7) .none mk4 md4 mp4 ma4 mc4 mt4),ms4⟩) (hc4:PySem.W.codeIn K mc4 "Table.many" = true) (hk4:PySem.W.keepIn K (.ref mf4)=true)
  (ha5:PySem.W.findIn K (.ref CT) "count" = some (some (.ref mf5))) (hf5:PySem.W.isFn K (.ref mf5)=true) (hl5:K.lookup mf5=some ⟨mq5,mo5,.func (PySem.W.fnOf "count" "Table.count" (q10 qc2) (q08 qc2) (q02 qc2) .none mk5 md5 mp5 ma5 mc5 mt5),ms5⟩) (hc5:PySem.W.codeIn K mc5 "Table.count" = true) (hk5:PySem.W.keepIn K (.ref mf5)=true)
  {tq ts:Tok} (gq:PySem.W.nsIn K mainGlobals "MOST_QUESTIONS" = some (some (.int 12 tq))) (gs:PySem.W.nsIn K mainGlobals "SIGNS" = some (some (.str "ny" ts)))
  (z0:PySem.W.nsIn K mainGlobals "len" = some none) (z1:PySem.W.nsIn K mainGlobals "range" = some none) (z2:PySem.W.nsIn K mainGlobals "all" = some none) (z3:PySem.W.nsIn K mainGlobals "zip" = some none) (z4:PySem.W.nsIn K mainGlobals "abs" = some none) (z5:PySem.W.nsIn K mainGlobals "int" = some none) (z6:PySem.W.nsIn K mainGlobals "str" = some none) (z7:PySem.W.nsIn K mainGlobals "bool" = some none) (z8:PySem.W.nsIn K mainGlobals "list" = some none) (z9:PySem.W.nsIn K mainGlobals "tuple" = some none) (z10:PySem.W.nsIn K mainGlobals "isinstance" = some none) (z11:PySem.W.nsIn K mainGlobals "enumerate" = some none) (z12:PySem.W.nsIn K mainGlobals "sum" = some none) (z13:PySem.W.nsIn K mainGlobals "sorted" = some none) (z14:PySem.W.nsIn K mainGlobals "dict" = some none) (z15:PySem.W.nsIn K mainGlobals "any" = some none) (z16:PySem.W.nsIn K mainGlobals "max" = some none) :
  ∃ fd:FuncData,(∀(s:Shared) (v:Value),BindsTo s fd ⟨[v],[]⟩ [("_law_script",v)])/\fd.code=.ref cc/\∀ base:Heap,K.In base->base.Ns mainGlobals mg->BMain mg base->FnOk l.prog w K mg base (CXE l.prog w) 12 fa fd ["_law_script"] (qY4 K Pt):=by
 have e:=hfa.symm.trans (PySem.W.mg_of X G aL)
 cases e
 have B:Bt mg:=⟨PySem.W.mg_none_of X G z0,PySem.W.mg_none_of X G z1,PySem.W.mg_none_of X G z2,PySem.W.mg_none_of X G z3,PySem.W.mg_none_of X G z4,PySem.W.mg_none_of X G z5,PySem.W.mg_none_of X G z6,PySem.W.mg_none_of X G z7,PySem.W.mg_none_of X G z8,PySem.W.mg_none_of X G z9,PySem.W.mg_none_of X G z10⟩
 have M:Gm mg:=⟨PySem.W.mg_none_of X G z11,PySem.W.mg_none_of X G z12,PySem.W.mg_none_of X G z13,PySem.W.mg_none_of X G z14,⟨_,PySem.W.mg_of X G gq⟩,⟨_,PySem.W.mg_of X G gs⟩⟩
 have Y:Bx mg:=⟨PySem.W.mg_none_of X G z15,PySem.W.mg_none_of X G z16⟩
 have D1:=q28 (st:=q78) (ps:=["questions"]) X G a1 l1 c1 k1 λ_ _ _ _ _ _ us hl=>match us,hl with | [_],_=>rfl
 have D2:=q28 (st:=qc8) (ps:=["question", "questions"]) X G a2 l2 c2 k2 λ_ _ _ _ _ _ us hl=>match us,hl with | [_,_],_=>rfl
 have D3:=q28 (st:=qg8) (ps:=["sign"]) X G a3 l3 c3 k3 λ_ _ _ _ _ _ us hl=>match us,hl with | [_],_=>rfl
 have D4:=q28 (st:=qo9) (ps:=["q", "a", "r", "b", "questions"]) X G a4 l4 c4 k4 λ_ _ _ _ _ _ us hl=>match us,hl with | [_,_,_,_,_],_=>rfl
 have D5:=q28 (st:=qc0) (ps:=["number", "told"]) X G a5 l5 c5 k5 λ_ _ _ _ _ _ us hl=>match us,hl with | [_,_],_=>rfl
 have D6:=q28 (st:=qo6) (ps:=["row", "questions"]) X G a6 l6 c6 k6 λ_ _ _ _ _ _ us hl=>match us,hl with | [_,_],_=>rfl
 have D7:=q28 (st:=qo7) (ps:=["pattern", "questions"]) X G a7 l7 c7 k7 λ_ _ _ _ _ _ us hl=>match us,hl with | [_,_],_=>rfl
 have D8:=q28 (st:=qg6) (ps:=["row", "questions"]) X G a8 l8 c8 k8 λ_ _ _ _ _ _ us hl=>match us,hl with | [_,_],_=>rfl
 have D9:=q28 (st:=qg7) (ps:=["pattern", "questions"]) X G a9 l9 c9 k9 λ_ _ _ _ _ _ us hl=>match us,hl with | [_,_],_=>rfl
 have D10:=q28 (st:=qh6) (ps:=["text", "signs"]) X G a10 l10 c10 k10 λ_ _ _ _ _ _ us hl=>match us,hl with | [_,_],_=>rfl
 have D11:=q28 (st:=ql5) (ps:=["pattern", "question", "sign"]) X G a11 l11 c11 k11 λ_ _ _ _ _ _ us hl=>match us,hl with | [_,_,_],_=>rfl
 have D12:=q28 (st:=q80) (ps:=["table"]) X G a12 l12 c12 k12 λ_ _ _ _ _ _ us hl=>match us,hl with | [_],_=>rfl
 have D13:=q28 (st:=q74) (ps:=["table"]) X G a13 l13 c13 k13 λ_ _ _ _ _ _ us hl=>match us,hl with | [_],_=>rfl
 have D14:=q28 (st:=qa5) (ps:=["table"]) X G a14 l14 c14 k14 λ_ _ _ _ _ _ us hl=>match us,hl with | [_],_=>rfl
 have D15:=q28 (st:=qc6) (ps:=["table", "question"]) X G a15 l15 c15 k15 λ_ _ _ _ _ _ us hl=>match us,hl with | [_,_],_=>rfl
 have D16:=q28 (st:=qh0) (ps:=["table", "lowest"]) X G a16 l16 c16 k16 λ_ _ _ _ _ _ us hl=>match us,hl with | [_,_],_=>rfl
 have D17:=q28 (st:=qh1) (ps:=["table", "q", "r"]) X G a17 l17 c17 k17 λ_ _ _ _ _ _ us hl=>match us,hl with | [_,_,_],_=>rfl
 have D18:=q28 (st:=qg9) (ps:=["table", "q", "r"]) X G a18 l18 c18 k18 λ_ _ _ _ _ _ us hl=>match us,hl with | [_,_,_],_=>rfl
 have D19:=q28 (st:=q97) (ps:=["table"]) X G a19 l19 c19 k19 λ_ _ _ _ _ _ us hl=>match us,hl with | [_],_=>rfl
 have D20:=q28 (st:=q93) (ps:=["table", "patterns"]) X G a20 l20 c20 k20 λ_ _ _ _ _ _ us hl=>match us,hl with | [_,_],_=>rfl
 have D21:=q28 (st:=qa6) (ps:=["table", "patterns"]) X G a21 l21 c21 k21 λ_ _ _ _ _ _ us hl=>match us,hl with | [_,_],_=>rfl
 have D22:=q28 (st:=qo5) (ps:=["table", "pattern"]) X G a22 l22 c22 k22 λ_ _ _ _ _ _ us hl=>match us,hl with | [_,_],_=>rfl
 have D23:=q28 (st:=s_pg) (ps:=["table", "pattern", "many"]) X G a23 l23 c23 k23 λ_ _ _ _ _ _ us hl=>match us,hl with | [_,_,_],_=>rfl
 have D24:=q28 (st:=qu3) (ps:=["pattern"]) X G a24 l24 c24 k24 λ_ _ _ _ _ _ us hl=>match us,hl with | [_],_=>rfl
 have D25:=q28 (st:=qo4) (ps:=["pattern"]) X G a25 l25 c25 k25 λ_ _ _ _ _ _ us hl=>match us,hl with | [_],_=>rfl
 have D26:=q28 (st:=ql9) (ps:=["table", "pattern", "question", "sign"]) X G a26 l26 c26 k26 λ_ _ _ _ _ _ us hl=>match us,hl with | [_,_,_,_],_=>rfl
 have D27:=q28 (st:=qf7) (ps:=["table", "pattern"]) X G a27 l27 c27 k27 λ_ _ _ _ _ _ us hl=>match us,hl with | [_,_],_=>rfl
 have D28:=q28 (st:=ql8) (ps:=["table", "numbers"]) X G a28 l28 c28 k28 λ_ _ _ _ _ _ us hl=>match us,hl with | [_,_],_=>rfl
 have D29:=q28 (st:=qo8) (ps:=["numbers", "many"]) X G a29 l29 c29 k29 λ_ _ _ _ _ _ us hl=>match us,hl with | [_,_],_=>rfl
 have D30:=q28 (st:=qg4) (ps:=["numbers"]) X G a30 l30 c30 k30 λ_ _ _ _ _ _ us hl=>match us,hl with | [_],_=>rfl
 have D31:=q28 (st:=qg5) (ps:=["table", "lowest"]) X G a31 l31 c31 k31 λ_ _ _ _ _ _ us hl=>match us,hl with | [_,_],_=>rfl
 have D32:=q28 (st:=s_aw) (ps:=["table", "q", "r"]) X G a32 l32 c32 k32 λ_ _ _ _ _ _ us hl=>match us,hl with | [_,_,_],_=>rfl
 have D33:=q28 (st:=qm0) (ps:=["_law_script", "_law_k"]) X G a33 l33 c33 k33 λ_ _ _ _ _ _ us hl=>match us,hl with | [_,_],_=>rfl
 have D34:=q28 (st:=q95) (ps:=["_law_cell_here", "_law_parts"]) X G a34 l34 c34 k34 λ_ _ _ _ _ _ us hl=>match us,hl with | [_,_],_=>rfl
 have D35:=q28 (st:=ql6) (ps:=["_law_found", "_law_due"]) X G a35 l35 c35 k35 λ_ _ _ _ _ _ us hl=>match us,hl with | [_,_],_=>rfl
 have D36:=q28 (st:=qz0) (ps:=["_law_sign"]) X G a36 l36 c36 k36 λ_ _ _ _ _ _ us hl=>match us,hl with | [_],_=>rfl
 have D37:=q28 (st:=qc7) (ps:=["_law_plan_here", "_law_m", "_law_number"]) X G a37 l37 c37 k37 λ_ _ _ _ _ _ us hl=>match us,hl with | [_,_,_],_=>rfl
 have D38:=q28 (st:=qp0) (ps:=["_law_number", "_law_n"]) X G a38 l38 c38 k38 λ_ _ _ _ _ _ us hl=>match us,hl with | [_,_],_=>rfl
 have D39:=q28 (st:=qg3) (ps:=["_law_number", "_law_n", "_law_plan_here"]) X G a39 l39 c39 k39 λ_ _ _ _ _ _ us hl=>match us,hl with | [_,_,_],_=>rfl
 have D40:=q28 (st:=qo3) (ps:=["_law_cell_here"]) X G a40 l40 c40 k40 λ_ _ _ _ _ _ us hl=>match us,hl with | [_],_=>rfl
 have D41:=q28 (st:=qo2) (ps:=["_law_cells", "_law_n", "_law_cell_here"]) X G a41 l41 c41 k41 λ_ _ _ _ _ _ us hl=>match us,hl with | [_,_,_],_=>rfl
 have D42:=q28 (st:=q69) (ps:=["_law_cell_here"]) X G a42 l42 c42 k42 λ_ _ _ _ _ _ us hl=>match us,hl with | [_],_=>rfl
 have D43:=q28 (st:=qc4) (ps:=["_law_rows_here", "_law_n"]) X G a43 l43 c43 k43 λ_ _ _ _ _ _ us hl=>match us,hl with | [_,_],_=>rfl
 have D44:=q28 (st:=qg2) (ps:=["_law_script", "_law_most"]) X G a44 l44 c44 k44 λ_ _ _ _ _ _ us hl=>match us,hl with | [_,_],_=>rfl
 have D45:=q28 (st:=qc9) (ps:=["_law_rows_here", "_law_q", "_law_a", "_law_r", "_law_b"]) X G a45 l45 c45 k45 λ_ _ _ _ _ _ us hl=>match us,hl with | [_,_,_,_,_],_=>rfl
 have D46:=q28 (st:=qc5) (ps:=["_law_rows_here", "_law_row"]) X G a46 l46 c46 k46 λ_ _ _ _ _ _ us hl=>match us,hl with | [_,_],_=>rfl
 have D47:=q28 (st:=ql7) (ps:=["_law_rows_here", "_law_n"]) X G a47 l47 c47 k47 λ_ _ _ _ _ _ us hl=>match us,hl with | [_,_],_=>rfl
 have D48:=q28 (st:=q94) (ps:=["_law_row", "_law_bundle"]) X G a48 l48 c48 k48 λ_ _ _ _ _ _ us hl=>match us,hl with | [_,_],_=>rfl
 have D49:=q28 (st:=q51) (ps:=["_law_rows_here", "_law_q", "_law_r"]) X G a49 l49 c49 k49 λ_ _ _ _ _ _ us hl=>match us,hl with | [_,_,_],_=>rfl
 have D50:=q28 (st:=q96) (ps:=["_law_things"]) X G a50 l50 c50 k50 λ_ _ _ _ _ _ us hl=>match us,hl with | [_],_=>rfl
 have D51:=q28 (st:=qo0) (ps:=["_law_asked"]) X G a51 l51 c51 k51 λ_ _ _ _ _ _ us hl=>match us,hl with | [_],_=>rfl
 have D52:=q28 (st:=q79) (ps:=["_law_rows_here", "_law_sheaves", "_law_drawn"]) X G a52 l52 c52 k52 λ_ _ _ _ _ _ us hl=>match us,hl with | [_,_,_],_=>rfl
 have D53:=q28 (st:=qz1) (ps:=["_law_sheaves", "_law_numbers_here", "_law_rows_here"]) X G a53 l53 c53 k53 λ_ _ _ _ _ _ us hl=>match us,hl with | [_,_,_],_=>rfl
 have D54:=q28 (st:=qo1) (ps:=["_law_numbers_here"]) X G a54 l54 c54 k54 λ_ _ _ _ _ _ us hl=>match us,hl with | [_],_=>rfl
 have D55:=q28 (st:=qe3) (ps:=["_law_found", "_law_rows_here", "_law_n", "_law_sheaves", "_law_numbers_here"]) X G a55 l55 c55 k55 λ_ _ _ _ _ _ us hl=>match us,hl with | [_,_,_,_,_],_=>rfl
 have D56:=q28 (st:=qb1) (ps:=["_law_script"]) X G a56 l56 c56 k56 λ_ _ _ _ _ _ us hl=>match us,hl with | [_],_=>rfl
 have F0:=qe0 (st:=qr8) hl0 hc0 hk0
 have b0:=F0.binds (ps:=["self", "questions"]) λ_ _ _ _ _ _ us hl=>match us,hl with | [_,_],_=>rfl
 have F1:=qe0 (st:=qB9) hl1 hc1 hk1
 have b1:=F1.binds (ps:=["self", "row"]) λ_ _ _ _ _ _ us hl=>match us,hl with | [_,_],_=>rfl
 have F2:=qe0 (st:=qy9) hl2 hc2 hk2
 have b2:=F2.binds (ps:=["self", "row"]) λ_ _ _ _ _ _ us hl=>match us,hl with | [_,_],_=>rfl
 have F3:=qe0 (st:=qg1) hl3 hc3 hk3
 have b3:=F3.binds (ps:=["self", "row", "by"]) λ_ _ _ _ _ _ us hl=>match us,hl with | [_,_,_],_=>rfl
 have F4:=qe0 (st:=qr7) hl4 hc4 hk4
 have b4:=F4.binds (ps:=["self"]) λ_ _ _ _ _ _ us hl=>match us,hl with | [_],_=>rfl
 have F5:=qe0 (st:=qc2) hl5 hc5 hk5
 have b5:=F5.binds (ps:=["self", "q", "a", "r", "b"]) λ_ _ _ _ _ _ us hl=>match us,hl with | [_,_,_,_,_],_=>rfl
 have T:Tb K mg CT mf0 mf1 mf2 mf3 mf4 mf5 _ _ _ _ _ _:=⟨PySem.W.mg_of X G tC,⟨t1,t2,t3,t4⟩,⟨t5,ha0,hf0,t6⟩,n_questions,n_kept,n_both,⟨ha1,hf1,hk1⟩,⟨ha2,hf2,hk2⟩,⟨ha3,hf3,hk3⟩,⟨ha4,hf4,hk4⟩,⟨ha5,hf5,hk5⟩,F0,F1,F2,F3,F4,F5,b0,b1,b2,b3,b4,b5⟩
 have FW:=qe0 (st:=qj8) liW cdW keW
 have bW:=FW.binds (ps:=["self", "word"]) λ_ _ _ _ _ _ us hl=>match us,hl with | [_,_],_=>rfl
 have kW:XKl K XW:=⟨⟨⟨_,_,_,_,_,_,_,_,_,_,_,_,_,_,_,oW,vW⟩⟩,saW,gaW,gnW,nwW⟩
 have FC:=qe0 (st:=qk0) liC cdC keC
 have bC:=FC.binds (ps:=["self"]) λ_ _ _ _ _ _ us hl=>match us,hl with | [_],_=>rfl
 have kC:XKl K XC:=⟨⟨⟨_,_,_,_,_,_,_,_,_,_,_,_,_,_,_,oC,vC⟩⟩,saC,gaC,gnC,nwC⟩
 have FS:=qe0 (st:=qj9) liS cdS keS
 have bS:=FS.binds (ps:=["self"]) λ_ _ _ _ _ _ us hl=>match us,hl with | [_],_=>rfl
 have kS:XKl K XS:=⟨⟨⟨_,_,_,_,_,_,_,_,_,_,_,_,_,_,_,oS,vS⟩⟩,saS,gaS,gnS,nwS⟩
 have FP:=qe0 (st:=qc3) liP cdP keP
 have bP:=FP.binds (ps:=["self"]) λ_ _ _ _ _ _ us hl=>match us,hl with | [_],_=>rfl
 have kP:XKl K XP:=⟨⟨⟨_,_,_,_,_,_,_,_,_,_,_,_,_,_,_,oP,vP⟩⟩,saP,gaP,gnP,nwP⟩
 have FU:=qe0 (st:=qc1) liU cdU keU
 have bU:=FU.binds (ps:=["self"]) λ_ _ _ _ _ _ us hl=>match us,hl with | [_],_=>rfl
 have kU:XKl K XU:=⟨⟨⟨_,_,_,_,_,_,_,_,_,_,_,_,_,_,_,oU,vU⟩⟩,saU,gaU,gnU,nwU⟩
 have XX:Xs K mg XW XC XS iW iC iS _ _ _:=⟨PySem.W.mg_of X G mW,PySem.W.mg_of X G mC,PySem.W.mg_of X G mS,PySem.W.mg_none_of X G gv,kW,kC,kS,⟨⟨_,_,_,_,_,_,_,_,_,_,_,_,_,_,_,oC,uC⟩⟩,⟨⟨_,_,_,_,_,_,_,_,_,_,_,_,_,_,_,oS,uS⟩⟩,⟨wg,wr,wf,keW⟩,⟨inC,ifC,kpC⟩,⟨inS,ifS,kpS⟩,FW,FC,FS,bW,bC,bS⟩
 have Z_NoBundle:Xc K mg XW XP iP _ "NoBundle" "NoBundle.__init__" qc3:=⟨PySem.W.mg_of X G mP,kP,⟨⟨_,_,_,_,_,_,_,_,_,_,_,_,_,_,_,oP,uP⟩⟩,⟨inP,ifP,kpP⟩,FP,bP⟩
 have Z_Twice:Xc K mg XW XU iU _ "Twice" "Twice.__init__" qc1:=⟨PySem.W.mg_of X G mU,kU,⟨⟨_,_,_,_,_,_,_,_,_,_,_,_,_,_,_,oU,uU⟩⟩,⟨inU,ifU,kpU⟩,FU,bU⟩
 refine ⟨_,λs v=>BindsTo.of_eq (fd:=PySem.W.fnOf "law" "law" (q10 qb1) (q08 qb1) (q02 qb1) .none kVL dcL pmL anL (.ref cc) ctL) rfl,rfl,λbase KB _ BM=>?_⟩
 exact ok_law lL cL D34 D33 D44 (z24 D44 D33 D34 D42 D41 (ok_rows D41 D34 D40 D39 (ok_plan D40 D34 B) (z25 D39 D38 D37 D36 B) B) B) D51 D43 (ok_ltab D43 T D1 (ok_tadd T D6 (ok_crow D6 D8 (z30 D8 D1 D10 B M)) M) B M) D35 D28 (λ_=>ok_free D28 D14 (qz7 D14 D12 (qs3 D12 D15 (qz9 D15 T (q70 T D4 (qd1 D4 D2 D3)) B M) D16 (qF9 D16 D17 (qG0 D17 T (q70 T D4 (qd1 D4 D2 D3))) T B) T B M)) D29 (ok_cnum D29 D5 (qQ9 D5 XX Z_Twice) XX Z_NoBundle M) D13 (qC1 D13 D14 (qz7 D14 D12 (qs3 D12 D15 (qz9 D15 T (q70 T D4 (qd1 D4 D2 D3)) B M) D16 (qF9 D16 D17 (qG0 D17 T (q70 T D4 (qd1 D4 D2 D3))) T B) T B M)) D18 (z33 D18 T (q70 T D4 (qd1 D4 D2 D3)) B M) M) D30 D20 (qK0 D20 D7 (ok_cpat D7 D9 (z31 D9 D1 D10 B M) XX) D19 D22 (ok_gaps D22 D23 (ok_pg D23 D24 T (q70 T D4 (qd1 D4 D2 D3)) M)) D21 (qR1 D21 D24 T (q70 T D4 (qd1 D4 D2 D3)) D27 (ok_fill D27 D25 D26 (ok_fits D26 D24 T (q70 T D4 (qd1 D4 D2 D3)) B M) D11 M) D11 B M) T XX M) D31 (z29 D31 D32 (ok_aw D32 T (q70 T D4 (qd1 D4 D2 D3)) B M) T B) T B M) D47 (ok_lbun D47 D45 B) D52 (qJ9 D52 D49 (qz8 D49 D45 B) B Y) D55 (z32 D55 D35 D54 (ok_some D54 D50 B) D48 (qK1 D48 D36 B) D46 (qR0 D46 D45 B) D49 (qz8 D49 D45 B) B Y) D53 XX Z_NoBundle Z_Twice B (PySem.W.codeHd_of_K KB hH) BM
theorem walk {l:PySem.W.OpenLaw}{q:Program}{loose:List Str}{XP:(Str->Option Value)->Heap->Prop}{YP:World->Heap->Prop}{d:DefRec}{K:Params->PySem.W.Frag}{cc Pt:Addr}(hn:l.most=some 63)(hdf:d.params.defaults=[])
  (hY:∀(w:World) (h:Heap),YP w h->(K w.params).In h) (hT:∀(w:World) (h:Heap),YP w h->h.get? Pt=some (PySem.W.tabObj #[])) (hC:∀ w:World,PySem.W.codeHdIn (K w.params) cc Pt=true) (hK:∀ w:World,(K w.params).lookup Pt=none)
  (F:∀(w:World) (mg:Str->Option Value) (fa:Addr) (h:Heap),(K w.params).In h->h.Ns mainGlobals mg->mg d.name=some (.ref fa) ->
   ∃ fd:FuncData,(∀(s:Shared) (u:Value),BindsTo s fd ⟨[u],[]⟩ [("_law_script",u)])/\fd.code=.ref cc/\∀ base:Heap,(K w.params).In base->base.Ns mainGlobals mg->BMain mg base->FnOk l.prog w (K w.params) mg base (CXE l.prog w) 12 fa fd ["_law_script"] (qY4 (K w.params) Pt)) :
  PySem.W.WalkO q loose XP YP l.row.toRowW d [] (λf vs=>PySem.call f vs) :=
 L2.walk_ofT (n:=63) (k:=12) (x := "_law_script") (tabs:=[(cc,Pt)]) (CX:=λw=>CXE l.prog w) (sp:=λw=>qY4 (K w.params) Pt) hn (by decide) hdf ⟨rfl,by decide,by decide⟩ hY
  (λw h Y q hq=>by obtain rfl:=List.mem_singleton.mp hq; exact hT w h Y) (λw h KX q hq=>by obtain rfl:=List.mem_singleton.mp hq; exact PySem.W.codeHd_of_K KX (hC w)) (λw q hq=>by obtain rfl:=List.mem_singleton.mp hq; exact hK w)
  (λw mg fa h h1 h2 h3=>let ⟨fd,e1,_,e2⟩:=F w mg fa h h1 h2 h3; ⟨fd,e1,e2⟩) (λ_ _ a ns hl hS hTs=>⟨a,ns,rfl,hS,hl,hTs (cc,Pt) (List.mem_singleton.mpr rfl),λ_=>rfl⟩) λ_ _ _ _ _ z=>by
  obtain ⟨_,_,_,_,_,_,_,_,_,_,_,_,_,_,_,q⟩:=z
  exact q.elim
end K19
open PySem PySem.W PyProof.Rows
def PySem.W.Fast.tw1104332047061615614:Unit:=()
def PySem.W.Fast.tw9131388616720060431:Unit:=()
def PySem.W.Fast.tw13711545582615099790:Unit:=()
def PySem.W.Fast.tw11876290517905791037:Unit:=()
def PySem.W.Fast.tw16418941769541210063:Unit:=()
def PySem.W.Fast.tw7876061003816445571:Unit:=()
def PySem.W.Fast.tw15031383709798439341:Unit:=()
def PySem.W.Fast.tw7064249020598248850:Unit:=()
def PySem.W.Fast.tw16756846786402795968:Unit:=()
def PySem.W.Fast.tw17775612278350046826:Unit:=()
def PySem.W.Fast.tw12866863022709240591:Unit:=()
def PySem.W.Fast.tw5870350675676931900:Unit:=()
def PySem.W.Fast.tw8013224749370483963:Unit:=()
def PySem.W.Fast.tw11380455114526558705:Unit:=()
def PySem.W.Fast.tw11206103292219505491:Unit:=()
def PySem.W.Fast.tw1191188400348868911:Unit:=()
def PySem.W.Fast.tw13652683094766409403:Unit:=()
def PySem.W.Fast.tw17816105910194692366:Unit:=()
def PySem.W.Fast.tw8560389936105679992:Unit:=()
def PySem.W.Fast.tw13274254578788919192:Unit:=()
def PySem.W.Fast.tw17653403799523583899:Unit:=()
def PySem.W.Fast.tw6028899203123916568:Unit:=()
def PySem.W.Fast.tw15512811563895330713:Unit:=()
def PySem.W.Fast.tw8336594670758201593:Unit:=()
def PySem.W.Fast.tw607604985544616714:Unit:=()
def PySem.W.Fast.tw15419231577575279343:Unit:=()
def PySem.W.Fast.tw5759998052443047294:Unit:=()
def PySem.W.Fast.tw7436973206535839895:Unit:=()
def PySem.W.Fast.tw4552546837728212034:Unit:=()
def PySem.W.Fast.tw10172529407114533096:Unit:=()
def PySem.W.Fast.tw5661724703316472801:Unit:=()
def PySem.W.Fast.tw13366030082867440787:Unit:=()
def PySem.W.Fast.tw1772725424341044288:Unit:=()
def PySem.W.Fast.tw9437054819830390378:Unit:=()
def PySem.W.Fast.tw7664445146418062569:Unit:=()
def PySem.W.Fast.tw17154676511392806087:Unit:=()
def PySem.W.Fast.tw2030807111213804683:Unit:=()
def PySem.W.Fast.tw8813089004868331661:Unit:=()
def PySem.W.Fast.tw15796326115290790805:Unit:=()
def PySem.W.Fast.tw12513878144004184533:Unit:=()
def PySem.W.Fast.tw1552757056282233693:Unit:=()
def PySem.W.Fast.tw4912407823008401488:Unit:=()
def PySem.W.Fast.tw2290742001063290996:Unit:=()
def PySem.W.Fast.tw7644338959636174909:Unit:=()
def PySem.W.Fast.tw4860431115496664060:Unit:=()
def PySem.W.Fast.tw10523578661606562774:Unit:=()
def PySem.W.Fast.tw2294303002732094309:Unit:=()
def PySem.W.Fast.tw5206958467041096352:Unit:=()
def PySem.W.Fast.tw11533695406380983862:Unit:=()
def PySem.W.Fast.tw13338454683098013598:Unit:=()
def PySem.W.Fast.tw6383301949319007690:Unit:=()
def PySem.W.Fast.tw11705090853773865691:Unit:=()
def PySem.W.Fast.tw9729685339700488609:Unit:=()
def PySem.W.Fast.tw10361285173708832173:Unit:=()
def PySem.W.Fast.tw9909322779216354569:Unit:=()
def PySem.W.Fast.tw4773191022571783491:Unit:=()
def PySem.W.Fast.tw13583664165878562099:Unit:=()
def PySem.W.Fast.tw14691436823968033258:Unit:=()
def PySem.W.Fast.tw14542299770669762137:Unit:=()
def PySem.W.Fast.tw8419679809929705797:Unit:=()
def PySem.W.Fast.tw18241650598124202548:Unit:=()
def PySem.W.Fast.tw10657787559857851601:Unit:=()
def PySem.W.Fast.tw4526190311502292330:Unit:=()
def PySem.W.Fast.tw12532978190668756791:Unit:=()
def PySem.W.Fast.tw1979768684768112050:Unit:=()
def PySem.W.Fast.tw3733761037912279993:Unit:=()
def PySem.W.Fast.tw7272862915299925537:Unit:=()
def PySem.W.Fast.tw7261064942623607881:Unit:=()
def PySem.W.Fast.tw8678860898995340907:Unit:=()
def PySem.W.Fast.tw11775322627310295780:Unit:=()
def PySem.W.Fast.tw4843847708745745874:Unit:=()
def PySem.W.Fast.tw15462198614723778381:Unit:=()
def PySem.W.Fast.tw8050147921585783060:Unit:=()
def PySem.W.Fast.tw7418886213380492132:Unit:=()
def PySem.W.Fast.tw14771026562836130388:Unit:=()
def PySem.W.Fast.tw1209991607208829944:Unit:=()
def PySem.W.Fast.tw12809582973362161214:Unit:=()
def PySem.W.Fast.tw4851745048545473168:Unit:=()
def PySem.W.Fast.tw8965984511026007586:Unit:=()
def PySem.W.Fast.tw16720216582932639211:Unit:=()
def PySem.W.Fast.tw7873657023333168911:Unit:=()
def PySem.W.Fast.tw10999833168989253410:Unit:=()
def PySem.W.Fast.tw11409057612174950061:Unit:=()
def PySem.W.Fast.tw3189087994158878802:Unit:=()
def PySem.W.Fast.tw16880483275571644914:Unit:=()
def PySem.W.Fast.tw8743236834688050227:Unit:=()
def PySem.W.Fast.tw12615393710231309073:Unit:=()
def PySem.W.Fast.tw1734770029871664997:Unit:=()
def PySem.W.Fast.tw11886588370857593191:Unit:=()
def PySem.W.Fast.tw8127390705504272614:Unit:=()
def PySem.W.Fast.tw17629566598284554177:Unit:=()
def PySem.W.Fast.tw13008802601870911250:Unit:=()
def PySem.W.Fast.tw10489569616728059699:Unit:=()
def PySem.W.Fast.tw6824969189453333258:Unit:=()
def PySem.W.Fast.tw17880996674135890486:Unit:=()
def PySem.W.Fast.tw3285652525031052205:Unit:=()
def PySem.W.Fast.tw11863319691328961078:Unit:=()
def PySem.W.Fast.tw6357335230509888305:Unit:=()
def PySem.W.Fast.tw8549850023345504182:Unit:=()
def PySem.W.Fast.tw1031656025068749569:Unit:=()
def PySem.W.Fast.tw9206564223067249290:Unit:=()
def PySem.W.Fast.tw5324247623497431650:Unit:=()
def PySem.W.Fast.tw9490965933128480920:Unit:=()
def PySem.W.Fast.tw17821909394845761819:Unit:=()
def PySem.W.Fast.tw6255912423938828859:Unit:=()
def PySem.W.Fast.tw13437003544142453565:Unit:=()
def PySem.W.Fast.tw4575519505260675859:Unit:=()
def PySem.W.Fast.tw3970173831842792538:Unit:=()
def PySem.W.Fast.tw13689547540407249762:Unit:=()
def PySem.W.Fast.tw7403322617321892935:Unit:=()
def PySem.W.Fast.tw7190735164656586178:Unit:=()
def PySem.W.Fast.tw6233483502639351517:Unit:=()
def PySem.W.Fast.tw12843348972388540953:Unit:=()
def PySem.W.Fast.tw5195252536128644639:Unit:=()
def PySem.W.Fast.tw2314025214979191846:Unit:=()
def PySem.W.Fast.tw10809936632097437215:Unit:=()
def PySem.W.Fast.tw1325194104088093623:Unit:=()
def PySem.W.Fast.tw13832530937014322644:Unit:=()
def PySem.W.Fast.tw4395580914186513535:Unit:=()
def PySem.W.Fast.tw16028730352639566311:Unit:=()
def PySem.W.Fast.tw349717004925634511:Unit:=()
def PySem.W.Fast.tw3608198844517086286:Unit:=()
def PySem.W.Fast.tw11046493574167309433:Unit:=()
def PySem.W.Fast.tw15076000282888676110:Unit:=()
def PySem.W.Fast.tw14080325340891973613:Unit:=()
def PySem.W.Fast.tw936843327633230840:Unit:=()
def PySem.W.Fast.tw7378143827690344703:Unit:=()
def PySem.W.Fast.tw12280921739516746242:Unit:=()
def PySem.W.Fast.tw5239737997269033789:Unit:=()
def PySem.W.Fast.tw17449152979671061601:Unit:=()
def PySem.W.Fast.tw77573971020195930:Unit:=()
def PySem.W.Fast.tw2201979929786189696:Unit:=()
def PySem.W.Fast.tw14055209640762290226:Unit:=()
def PySem.W.Fast.tw12566051850864534110:Unit:=()
def PySem.W.Fast.tw2230606256391308727:Unit:=()
def PySem.W.Fast.tw993297037427507757:Unit:=()
def PySem.W.Fast.tw13674479892196661148:Unit:=()
def PySem.W.Fast.tw986856379440183034:Unit:=()
def PySem.W.Fast.tw6243065814397368828:Unit:=()
def PySem.W.Fast.tw16396618477659111997:Unit:=()
def PySem.W.Fast.tw4136816550312485435:Unit:=()
def PySem.W.Fast.tw13121159804964715494:Unit:=()
def PySem.W.Fast.tw15394938891154606050:Unit:=()
def PySem.W.Fast.tw11382375785365209121:Unit:=()
def PySem.W.Fast.tw8297904922364608956:Unit:=()
def PySem.W.Fast.tw18134032370120274608:Unit:=()
def PySem.W.Fast.tw13022547304143120261:Unit:=()
def PySem.W.Fast.tw7453753705459376543:Unit:=()
def PySem.W.Fast.tw12306011695743276609:Unit:=()
def PySem.W.Fast.tw10141732770417011706:Unit:=()
def PySem.W.Fast.tw16176235839846992886:Unit:=()
def PySem.W.Fast.tw976123262161705253:Unit:=()
def PySem.W.Fast.tw11458649229491563225:Unit:=()
def PySem.W.Fast.tw1368260468803682992:Unit:=()
def PySem.W.Fast.tw4742439616247952441:Unit:=()
def PySem.W.Fast.tw3280890979134631934:Unit:=()
def PySem.W.Fast.tw5602298475782406806:Unit:=()
def PySem.W.Fast.tw4023096542663513763:Unit:=()
def PySem.W.Fast.tw14446356735343397254:Unit:=()
def PySem.W.Fast.tw2007749475685936420:Unit:=()
def PySem.W.Fast.tw17125584547539224462:Unit:=()
def PySem.W.Fast.tw13493733715949225583:Unit:=()
def PySem.W.Fast.tw6806907429292971639:Unit:=()
def PySem.W.Fast.tw11277604766145963173:Unit:=()
def PySem.W.Fast.tw13316260708572476299:Unit:=()
def PySem.W.Fast.tw5216904669384032971:Unit:=()
def PySem.W.Fast.tw15840707363489133645:Unit:=()
def PySem.W.Fast.tw4466105177674307186:Unit:=()
def PySem.W.Fast.tw7907571829998633150:Unit:=()
def PySem.W.Fast.tw13092104151953384483:Unit:=()
def PySem.W.Fast.tw9873277121056884824:Unit:=()
def PySem.W.Fast.tw10918078098418708535:Unit:=()
def PySem.W.Fast.tw3408647161514351016:Unit:=()
def PySem.W.Fast.tw10261665373493550142:Unit:=()
def PySem.W.Fast.tw6139627704135172566:Unit:=()
def PySem.W.Fast.tw18268847497633425729:Unit:=()
def PySem.W.Fast.tw984115995904607102:Unit:=()
def PySem.W.Fast.tw13993615660415676106:Unit:=()
def PySem.W.Fast.tw10748713422721155653:Unit:=()
def PySem.W.Fast.tw6353103647791327202:Unit:=()
def PySem.W.Fast.tw9697462729675987483:Unit:=()
def PySem.W.Fast.tw12196012079886565789:Unit:=()
def PySem.W.Fast.tw10425873109609512729:Unit:=()
def PySem.W.Fast.tw861941674998048083:Unit:=()
def PySem.W.Fast.tw14167927156309016918:Unit:=()
def PySem.W.Fast.tw13653980543810297987:Unit:=()
def PySem.W.Fast.tw17206587532169687266:Unit:=()
def PySem.W.Fast.tw8299948834950975768:Unit:=()
def PySem.W.Fast.tw10399767863208043809:Unit:=()
def PySem.W.Fast.tw9827623676287019833:Unit:=()
def PySem.W.Fast.tw13686380672578741118:Unit:=()
def PySem.W.Fast.tw7543085630136961530:Unit:=()
def PySem.W.Fast.tw17246293126911624634:Unit:=()
def PySem.W.Fast.tw585049122105168744:Unit:=()
def PySem.W.Fast.tw5685752263039838462:Unit:=()
def PySem.W.Fast.tw11774477655239302514:Unit:=()
def PySem.W.Fast.tw15254003966947892978:Unit:=()
def PySem.W.Fast.tw1375821185046734962:Unit:=()
def PySem.W.Fast.tw7883088619115877722:Unit:=()
def PySem.W.Fast.tw6560802989436528795:Unit:=()
def PySem.W.Fast.tw7750867493124046782:Unit:=()
def PySem.W.Fast.tw9865876443266461448:Unit:=()
def PySem.W.Fast.tw2317934869395948248:Unit:=()
def PySem.W.Fast.tw15483561329914654251:Unit:=()
def PySem.W.Fast.tw17472920855396938623:Unit:=()
def PySem.W.Fast.tw11942632944706842367:Unit:=()
def PySem.W.Fast.tw16159890454059368084:Unit:=()
def PySem.W.Fast.tw9046653909940002817:Unit:=()
def PySem.W.Fast.tw5932841151104952990:Unit:=()
def PySem.W.Fast.tw7028265729918615828:Unit:=()
def PySem.W.Fast.tw2917159477139886234:Unit:=()
def PySem.W.Fast.tw11874647137350406088:Unit:=()
def PySem.W.Fast.tw18430516805940078799:Unit:=()
def PySem.W.Fast.tw304540667109836538:Unit:=()
def PySem.W.Fast.tw13892417251577517537:Unit:=()
def PySem.W.Fast.tw8175993772123416125:Unit:=()
def PySem.W.Fast.tw4199889925737416839:Unit:=()
def PySem.W.Fast.tw6552199541335192332:Unit:=()
def PySem.W.Fast.tw11015699446598038936:Unit:=()
def PySem.W.Fast.tw10068765227335603527:Unit:=()
def PySem.W.Fast.tw13661776120178397917:Unit:=()
def PySem.W.Fast.tw1016912267367404987:Unit:=()
def PySem.W.Fast.tw9659711076806679618:Unit:=()
def PySem.W.Fast.tw9256801431834205681:Unit:=()
def PySem.W.Fast.tw11730511419350421603:Unit:=()
def PySem.W.Fast.tw7273217938007140470:Unit:=()
def PySem.W.Fast.tw286111977887295026:Unit:=()
def PySem.W.Fast.tw15509667532001097254:Unit:=()
def PySem.W.Fast.tw14044567664255332033:Unit:=()
def PySem.W.Fast.tw2941162056446350627:Unit:=()
def PySem.W.Fast.tw16264238044573339893:Unit:=()
def PySem.W.Fast.tw15049376801063727796:Unit:=()
def PySem.W.Fast.tw17500564377245426047:Unit:=()
def PySem.W.Fast.tw10514297709094381513:Unit:=()
def PySem.W.Fast.tw2406082399901890297:Unit:=()
def PySem.W.Fast.tw11502904008773947754:Unit:=()
def PySem.W.Fast.tw6737492298220927808:Unit:=()
def PySem.W.Fast.tw3505895762190589508:Unit:=()
def PySem.W.Fast.tw13453815081147359704:Unit:=()
def PySem.W.Fast.tw17046759714361477667:Unit:=()
def PySem.W.Fast.tw8930886038536344544:Unit:=()
def PySem.W.Fast.tw13601025728356932522:Unit:=()
def PySem.W.Fast.tw14789079764237059974:Unit:=()
def PySem.W.Fast.tw16411242169235256656:Unit:=()
def PySem.W.Fast.tw3948469509212019612:Unit:=()
def PySem.W.Fast.tw5214786445166188441:Unit:=()
def PySem.W.Fast.tw2366814951130328624:Unit:=()
def PySem.W.Fast.tw3886555268782060130:Unit:=()
def PySem.W.Fast.tw9183965041386261099:Unit:=()
def PySem.W.Fast.tw2621666773573950915:Unit:=()
def PySem.W.Fast.tw554615779965390643:Unit:=()
def PySem.W.Fast.tw1577556509073194090:Unit:=()
def PySem.W.Fast.tw7594768393479461378:Unit:=()
def PySem.W.Fast.tw3727920453718870564:Unit:=()
def PySem.W.Fast.tw9019809373157941855:Unit:=()
def PySem.W.Fast.tw5098541933304338474:Unit:=()
def PySem.W.Fast.tw4465746886432021103:Unit:=()
def PySem.W.Fast.tw1928078543294683603:Unit:=()
def PySem.W.Fast.tw9157850188803716286:Unit:=()
def PySem.W.Fast.tw4617568814641332281:Unit:=()
def PySem.W.Fast.tw204697551191649462:Unit:=()
def PySem.W.Fast.tw12644961851984132565:Unit:=()
def PySem.W.Fast.tw9538358886227433965:Unit:=()
set_option maxRecDepth 100000 in
set_option maxHeartbeats 0 in
theorem PySem.Challenge.cw_wapentake_k19_whole_bundles_all_turned_a_holds : PySem.Challenge.rw_wapentake_k19_whole_bundles_all_turned_a.Holds := by
  w_on; o_law; k_head; (case hw => w_witness2)
  k_fill
  refine' K19.walk (l := PySem.Challenge.rw_wapentake_k19_whole_bundles_all_turned_a) (cc := _) (Pt := _) rfl rfl (fun w h Y => PySem.W.km_in_of Y) ?hT ?hC0 ?hK ?F
  case F =>
    intro w mg fa h KX G hmg
    refine' K19.all_mk KX G hmg ?aL ?lL ?cL ?lZ ?hZ ?hH ?a1 ?l1 ?c1 ?k1 ?a2 ?l2 ?c2 ?k2 ?a3 ?l3 ?c3 ?k3 ?a4 ?l4 ?c4 ?k4 ?a5 ?l5 ?c5 ?k5 ?a6 ?l6 ?c6 ?k6 ?a7 ?l7 ?c7 ?k7 ?a8 ?l8 ?c8 ?k8 ?a9 ?l9 ?c9 ?k9 ?a10 ?l10 ?c10 ?k10 ?a11 ?l11 ?c11 ?k11 ?a12 ?l12 ?c12 ?k12 ?a13 ?l13 ?c13 ?k13 ?a14 ?l14 ?c14 ?k14 ?a15 ?l15 ?c15 ?k15 ?a16 ?l16 ?c16 ?k16 ?a17 ?l17 ?c17 ?k17 ?a18 ?l18 ?c18 ?k18 ?a19 ?l19 ?c19 ?k19 ?a20 ?l20 ?c20 ?k20 ?a21 ?l21 ?c21 ?k21 ?a22 ?l22 ?c22 ?k22 ?a23 ?l23 ?c23 ?k23 ?a24 ?l24 ?c24 ?k24 ?a25 ?l25 ?c25 ?k25 ?a26 ?l26 ?c26 ?k26 ?a27 ?l27 ?c27 ?k27 ?a28 ?l28 ?c28 ?k28 ?a29 ?l29 ?c29 ?k29 ?a30 ?l30 ?c30 ?k30 ?a31 ?l31 ?c31 ?k31 ?a32 ?l32 ?c32 ?k32 ?a33 ?l33 ?c33 ?k33 ?a34 ?l34 ?c34 ?k34 ?a35 ?l35 ?c35 ?k35 ?a36 ?l36 ?c36 ?k36 ?a37 ?l37 ?c37 ?k37 ?a38 ?l38 ?c38 ?k38 ?a39 ?l39 ?c39 ?k39 ?a40 ?l40 ?c40 ?k40 ?a41 ?l41 ?c41 ?k41 ?a42 ?l42 ?c42 ?k42 ?a43 ?l43 ?c43 ?k43 ?a44 ?l44 ?c44 ?k44 ?a45 ?l45 ?c45 ?k45 ?a46 ?l46 ?c46 ?k46 ?a47 ?l47 ?c47 ?k47 ?a48 ?l48 ?c48 ?k48 ?a49 ?l49 ?c49 ?k49 ?a50 ?l50 ?c50 ?k50 ?a51 ?l51 ?c51 ?k51 ?a52 ?l52 ?c52 ?k52 ?a53 ?l53 ?c53 ?k53 ?a54 ?l54 ?c54 ?k54 ?a55 ?l55 ?c55 ?k55 ?a56 ?l56 ?c56 ?k56 ?mW ?oW ?vW ?saW ?gaW ?gnW ?nwW ?inW ?ifW ?kpW ?liW ?cdW ?keW ?mC ?oC ?vC ?saC ?gaC ?gnC ?nwC ?inC ?ifC ?kpC ?liC ?cdC ?keC ?mS ?oS ?vS ?saS ?gaS ?gnS ?nwS ?inS ?ifS ?kpS ?liS ?cdS ?keS ?mP ?oP ?vP ?saP ?gaP ?gnP ?nwP ?inP ?ifP ?kpP ?liP ?cdP ?keP ?mU ?oU ?vU ?saU ?gaU ?gnU ?nwU ?inU ?ifU ?kpU ?liU ?cdU ?keU ?uC ?uS ?wg ?wr ?wf ?gv ?uP ?uU ?tC ?t1 ?t2 ?t3 ?t4 ?t5 ?t6 ?n_questions ?n_kept ?n_both ?ha0 ?hf0 ?hl0 ?hc0 ?hk0 ?ha1 ?hf1 ?hl1 ?hc1 ?hk1 ?ha2 ?hf2 ?hl2 ?hc2 ?hk2 ?ha3 ?hf3 ?hl3 ?hc3 ?hk3 ?ha4 ?hf4 ?hl4 ?hc4 ?hk4 ?ha5 ?hf5 ?hl5 ?hc5 ?hk5 ?gq ?gs ?z0 ?z1 ?z2 ?z3 ?z4 ?z5 ?z6 ?z7 ?z8 ?z9 ?z10 ?z11 ?z12 ?z13 ?z14 ?z15 ?z16
    (case aL => k_is)
    (case lL => k_is)
    (case cL => k_is)
    (case lZ => k_is)
    (case hZ => rfl)
    (case hH => kernel_rfl)
    (case a1 => k_is)
    (case l1 => k_is)
    (case c1 => k_is)
    (case k1 => k_is)
    (case a2 => k_is)
    (case l2 => k_is)
    (case c2 => k_is)
    (case k2 => k_is)
    (case a3 => k_is)
    (case l3 => k_is)
    (case c3 => k_is)
    (case k3 => k_is)
    (case a4 => k_is)
    (case l4 => k_is)
    (case c4 => k_is)
    (case k4 => k_is)
    (case a5 => k_is)
    (case l5 => k_is)
    (case c5 => k_is)
    (case k5 => k_is)
    (case a6 => k_is)
    (case l6 => k_is)
    (case c6 => k_is)
    (case k6 => k_is)
    (case a7 => k_is)
    (case l7 => k_is)
    (case c7 => k_is)
    (case k7 => k_is)
    (case a8 => k_is)
    (case l8 => k_is)
    (case c8 => k_is)
    (case k8 => k_is)
    (case a9 => k_is)
    (case l9 => k_is)
    (case c9 => k_is)
    (case k9 => k_is)
    (case a10 => k_is)
    (case l10 => k_is)
    (case c10 => k_is)
    (case k10 => k_is)
    (case a11 => k_is)
    (case l11 => k_is)
    (case c11 => k_is)
    (case k11 => k_is)
    (case a12 => k_is)
    (case l12 => k_is)
    (case c12 => k_is)
    (case k12 => k_is)
    (case a13 => k_is)
    (case l13 => k_is)
    (case c13 => k_is)
    (case k13 => k_is)
    (case a14 => k_is)
    (case l14 => k_is)
    (case c14 => k_is)
    (case k14 => k_is)
    (case a15 => k_is)
    (case l15 => k_is)
    (case c15 => k_is)
    (case k15 => k_is)
    (case a16 => k_is)
    (case l16 => k_is)
    (case c16 => k_is)
    (case k16 => k_is)
    (case a17 => k_is)
    (case l17 => k_is)
    (case c17 => k_is)
    (case k17 => k_is)
    (case a18 => k_is)
    (case l18 => k_is)
    (case c18 => k_is)
    (case k18 => k_is)
    (case a19 => k_is)
    (case l19 => k_is)
    (case c19 => k_is)
    (case k19 => k_is)
    (case a20 => k_is)
    (case l20 => k_is)
    (case c20 => k_is)
    (case k20 => k_is)
    (case a21 => k_is)
    (case l21 => k_is)
    (case c21 => k_is)
    (case k21 => k_is)
    (case a22 => k_is)
    (case l22 => k_is)
    (case c22 => k_is)
    (case k22 => k_is)
    (case a23 => k_is)
    (case l23 => k_is)
    (case c23 => k_is)
    (case k23 => k_is)
    (case a24 => k_is)
    (case l24 => k_is)
    (case c24 => k_is)
    (case k24 => k_is)
    (case a25 => k_is)
    (case l25 => k_is)
    (case c25 => k_is)
    (case k25 => k_is)
    (case a26 => k_is)
    (case l26 => k_is)
    (case c26 => k_is)
    (case k26 => k_is)
    (case a27 => k_is)
    (case l27 => k_is)
    (case c27 => k_is)
    (case k27 => k_is)
    (case a28 => k_is)
    (case l28 => k_is)
    (case c28 => k_is)
    (case k28 => k_is)
    (case a29 => k_is)
    (case l29 => k_is)
    (case c29 => k_is)
    (case k29 => k_is)
    (case a30 => k_is)
    (case l30 => k_is)
    (case c30 => k_is)
    (case k30 => k_is)
    (case a31 => k_is)
    (case l31 => k_is)
    (case c31 => k_is)
    (case k31 => k_is)
    (case a32 => k_is)
    (case l32 => k_is)
    (case c32 => k_is)
    (case k32 => k_is)
    (case a33 => k_is)
    (case l33 => k_is)
    (case c33 => k_is)
    (case k33 => k_is)
    (case a34 => k_is)
    (case l34 => k_is)
    (case c34 => k_is)
    (case k34 => k_is)
    (case a35 => k_is)
    (case l35 => k_is)
    (case c35 => k_is)
    (case k35 => k_is)
    (case a36 => k_is)
    (case l36 => k_is)
    (case c36 => k_is)
    (case k36 => k_is)
    (case a37 => k_is)
    (case l37 => k_is)
    (case c37 => k_is)
    (case k37 => k_is)
    (case a38 => k_is)
    (case l38 => k_is)
    (case c38 => k_is)
    (case k38 => k_is)
    (case a39 => k_is)
    (case l39 => k_is)
    (case c39 => k_is)
    (case k39 => k_is)
    (case a40 => k_is)
    (case l40 => k_is)
    (case c40 => k_is)
    (case k40 => k_is)
    (case a41 => k_is)
    (case l41 => k_is)
    (case c41 => k_is)
    (case k41 => k_is)
    (case a42 => k_is)
    (case l42 => k_is)
    (case c42 => k_is)
    (case k42 => k_is)
    (case a43 => k_is)
    (case l43 => k_is)
    (case c43 => k_is)
    (case k43 => k_is)
    (case a44 => k_is)
    (case l44 => k_is)
    (case c44 => k_is)
    (case k44 => k_is)
    (case a45 => k_is)
    (case l45 => k_is)
    (case c45 => k_is)
    (case k45 => k_is)
    (case a46 => k_is)
    (case l46 => k_is)
    (case c46 => k_is)
    (case k46 => k_is)
    (case a47 => k_is)
    (case l47 => k_is)
    (case c47 => k_is)
    (case k47 => k_is)
    (case a48 => k_is)
    (case l48 => k_is)
    (case c48 => k_is)
    (case k48 => k_is)
    (case a49 => k_is)
    (case l49 => k_is)
    (case c49 => k_is)
    (case k49 => k_is)
    (case a50 => k_is)
    (case l50 => k_is)
    (case c50 => k_is)
    (case k50 => k_is)
    (case a51 => k_is)
    (case l51 => k_is)
    (case c51 => k_is)
    (case k51 => k_is)
    (case a52 => k_is)
    (case l52 => k_is)
    (case c52 => k_is)
    (case k52 => k_is)
    (case a53 => k_is)
    (case l53 => k_is)
    (case c53 => k_is)
    (case k53 => k_is)
    (case a54 => k_is)
    (case l54 => k_is)
    (case c54 => k_is)
    (case k54 => k_is)
    (case a55 => k_is)
    (case l55 => k_is)
    (case c55 => k_is)
    (case k55 => k_is)
    (case a56 => k_is)
    (case l56 => k_is)
    (case c56 => k_is)
    (case k56 => k_is)
    (case mW => k_is)
    (case oW => k_is)
    (case vW => exact ⟨by decide +kernel, by decide +kernel, by decide +kernel, by decide +kernel, by decide +kernel, fun _ => rfl⟩)
    (case saW => k_is)
    (case gaW => k_is)
    (case gnW => k_is)
    (case nwW => k_is)
    (case inW => k_is)
    (case ifW => k_is)
    (case kpW => k_is)
    (case liW => k_is)
    (case cdW => k_is)
    (case keW => k_is)
    (case mC => k_is)
    (case oC => k_is)
    (case vC => exact ⟨by decide +kernel, by decide +kernel, by decide +kernel, by decide +kernel, by decide +kernel, fun _ => rfl⟩)
    (case saC => k_is)
    (case gaC => k_is)
    (case gnC => k_is)
    (case nwC => k_is)
    (case inC => k_is)
    (case ifC => k_is)
    (case kpC => k_is)
    (case liC => k_is)
    (case cdC => k_is)
    (case keC => k_is)
    (case mS => k_is)
    (case oS => k_is)
    (case vS => exact ⟨by decide +kernel, by decide +kernel, by decide +kernel, by decide +kernel, by decide +kernel, fun _ => rfl⟩)
    (case saS => k_is)
    (case gaS => k_is)
    (case gnS => k_is)
    (case nwS => k_is)
    (case inS => k_is)
    (case ifS => k_is)
    (case kpS => k_is)
    (case liS => k_is)
    (case cdS => k_is)
    (case keS => k_is)
    (case mP => k_is)
    (case oP => k_is)
    (case vP => exact ⟨by decide +kernel, by decide +kernel, by decide +kernel, by decide +kernel, by decide +kernel, fun _ => rfl⟩)
    (case saP => k_is)
    (case gaP => k_is)
    (case gnP => k_is)
    (case nwP => k_is)
    (case inP => k_is)
    (case ifP => k_is)
    (case kpP => k_is)
    (case liP => k_is)
    (case cdP => k_is)
    (case keP => k_is)
    (case mU => k_is)
    (case oU => k_is)
    (case vU => exact ⟨by decide +kernel, by decide +kernel, by decide +kernel, by decide +kernel, by decide +kernel, fun _ => rfl⟩)
    (case saU => k_is)
    (case gaU => k_is)
    (case gnU => k_is)
    (case nwU => k_is)
    (case inU => k_is)
    (case ifU => k_is)
    (case kpU => k_is)
    (case liU => k_is)
    (case cdU => k_is)
    (case keU => k_is)
    (case uC => decide +kernel)
    (case uS => decide +kernel)
    (case wg => k_is)
    (case wr => k_is)
    (case wf => k_is)
    (case gv => k_is)
    (case uP => decide +kernel)
    (case uU => decide +kernel)
    (case tC => k_is)
    (case t1 => k_is)
    (case t2 => k_is)
    (case t3 => k_is)
    (case t4 => k_is)
    (case t5 => k_is)
    (case t6 => k_is)
    (case n_questions => k_is)
    (case n_kept => k_is)
    (case n_both => k_is)
    (case ha0 => k_is)
    (case hf0 => k_is)
    (case hl0 => k_is)
    (case hc0 => k_is)
    (case hk0 => k_is)
    (case ha1 => k_is)
    (case hf1 => k_is)
    (case hl1 => k_is)
    (case hc1 => k_is)
    (case hk1 => k_is)
    (case ha2 => k_is)
    (case hf2 => k_is)
    (case hl2 => k_is)
    (case hc2 => k_is)
    (case hk2 => k_is)
    (case ha3 => k_is)
    (case hf3 => k_is)
    (case hl3 => k_is)
    (case hc3 => k_is)
    (case hk3 => k_is)
    (case ha4 => k_is)
    (case hf4 => k_is)
    (case hl4 => k_is)
    (case hc4 => k_is)
    (case hk4 => k_is)
    (case ha5 => k_is)
    (case hf5 => k_is)
    (case hl5 => k_is)
    (case hc5 => k_is)
    (case hk5 => k_is)
    (case gq => k_is)
    (case gs => k_is)
    (case z0 => k_is)
    (case z1 => k_is)
    (case z2 => k_is)
    (case z3 => k_is)
    (case z4 => k_is)
    (case z5 => k_is)
    (case z6 => k_is)
    (case z7 => k_is)
    (case z8 => k_is)
    (case z9 => k_is)
    (case z10 => k_is)
    (case z11 => k_is)
    (case z12 => k_is)
    (case z13 => k_is)
    (case z14 => k_is)
    (case z15 => k_is)
    (case z16 => k_is)
  case hT => exact fun w h Y => PySem.W.km_tabs_of Y _ (by decide)
  case hC0 => intro w; kernel_rfl
  case hK => intro w; kernel_rfl
#print axioms PySem.Challenge.cw_wapentake_k19_whole_bundles_all_turned_a_holds

