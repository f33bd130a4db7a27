import PyProof.Rows.All
import Wide.All
import OpenK.AllK
import Wide.FinOn
import Lean
import PyProof.EqAt
import PyProof.EqKinds
import PyProof.TupleCall
import KE.KUnpack
import PyProof.Draws
import PyProof.EnumMake
import PyProof.Rows.EnumRows
import KE.KDictSum
import PyProof.Rows.SeqCalls
import KE.KPairRows
import PyProof.NeKinds
import PyProof.Rows.EqBoolInt
import PyProof.StrBlockH
import PyProof.FString5
import PyProof.SliceList
import KE.KLam
import KE.KNestM
import PyProof.StrLawsIn
import KE.KDictOf
import PyProof.AttrMissHeap
import PyProof.ConsumeS
import PyProof.DictList
import PyProof.SeqI3
import PyProof.WalkInts
import PyProof.SumAny
import PyProof.DictIter
import PyProof.DictWalks
import PyProof.Cells
import PyProof.Rows.SortShell
import PyProof.AutoListH
import PyProof.Rows.SortStr
import PyProof.Rows.SortShellK
import PySem.Challenge.RW_wapentake_k57_whole_one_table_asked_over
set_option Elab.async false
set_option linter.all false
set_option maxRecDepth 100000
set_option maxHeartbeats 4000000
set_option compiler.extract_closed false
local macro_rules|`(tactic|trivial)=>`(tactic|decide +kernel)
theorem aE:type_of% @PySem.wpAny_bind:=@PySem.wpAny_bind
theorem aI:type_of% @List.length_map:=@List.length_map
theorem aN:type_of% @if_neg:=@if_neg
theorem aP:type_of% @if_pos:=@if_pos
theorem aY:type_of% @Nat.le_refl:=@Nat.le_refl
theorem aa:type_of% @PySem.wpAny_pure:=@PySem.wpAny_pure
theorem ar:type_of% @List.getElem?_map:=@List.getElem?_map
theorem b8:type_of% @Nat.le_trans:=@Nat.le_trans
theorem bH:type_of% @List.mem_singleton:=@List.mem_singleton
theorem bI:type_of% @List.mem_of_getElem?:=@List.mem_of_getElem?
theorem bK:type_of% @List.mem_range:=@List.mem_range
theorem bQ:type_of% @List.map_append:=@List.map_append
theorem bR:type_of% @decide_eq_true:=@decide_eq_true
theorem bU:type_of% @PySem.Heap.lt_size:=@PySem.Heap.lt_size
theorem bX:type_of% @Nat.zero_le:=@Nat.zero_le
theorem bZ:type_of% @List.getElem?_eq_getElem:=@List.getElem?_eq_getElem
theorem bh:type_of% @List.mem_cons:=@List.mem_cons
theorem bj:type_of% @PySem.Heap.get?_push_of_some:=@PySem.Heap.get?_push_of_some
theorem cA:type_of% @Nat.lt_of_le_of_lt:=@Nat.lt_of_le_of_lt
theorem cE:type_of% @List.getElem?_eq_some_iff:=@List.getElem?_eq_some_iff
theorem cI:type_of% @List.mem_map:=@List.mem_map
theorem cQ:type_of% @Nat.ne_of_lt:=@Nat.ne_of_lt
theorem cR:type_of% @List.length_append:=@List.length_append
theorem cW:type_of% @List.take_length:=@List.take_length
theorem cY:type_of% @List.mem_filter:=@List.mem_filter
theorem cZ:type_of% @List.length_take:=@List.length_take
theorem cw:type_of% @of_decide_eq_true:=@of_decide_eq_true
theorem cy:type_of% @decide_eq_false:=@decide_eq_false
theorem d7:type_of% @PySem.boot_len:=@PySem.boot_len
theorem d8:type_of% @PySem.PassesOwn.never:=@PySem.PassesOwn.never
theorem dA:type_of% @List.take_add_one:=@List.take_add_one
theorem dN:type_of% @Bool.false_ne_true:=@Bool.false_ne_true
theorem dX:type_of% @decide_eq_true_iff:=@decide_eq_true_iff
theorem dk:type_of% @List.length_range:=@List.length_range
theorem dm:type_of% @List.length_cons:=@List.length_cons
theorem dy:type_of% @List.mem_cons_of_mem:=@List.mem_cons_of_mem
theorem eJ:type_of% @List.mem_cons_self:=@List.mem_cons_self
theorem eK:type_of% @List.mem_append_right:=@List.mem_append_right
theorem eL:type_of% @PySem.Heap.size_push:=@PySem.Heap.size_push
theorem eS:type_of% @List.mem_flatMap:=@List.mem_flatMap
theorem eU:type_of% @List.map_cons:=@List.map_cons
theorem fB:type_of% @Ne.symm:=@Ne.symm
theorem fD:type_of% @PySem.Heap.get?_push_size:=@PySem.Heap.get?_push_size
theorem fG:type_of% @PySem.sizeLine_eq:=@PySem.sizeLine_eq
theorem fX:type_of% @List.size_toArray:=@List.size_toArray
theorem fY:type_of% @PySem.wpAny_mono:=@PySem.wpAny_mono
theorem gB:type_of% @Nat.le_succ:=@Nat.le_succ
theorem gE:type_of% @Bool.and_eq_true:=@Bool.and_eq_true
theorem gN:type_of% @PySem.W.mg_none_of:=@PySem.W.mg_none_of
theorem gO:type_of% @Nat.lt_of_lt_of_le:=@Nat.lt_of_lt_of_le
theorem gQ:type_of% @List.mem_append:=@List.mem_append
theorem gR:type_of% @List.map_map:=@List.map_map
theorem gT:type_of% @List.length_filter_le:=@List.length_filter_le
theorem gX:type_of% @List.append_nil:=@List.append_nil
theorem i6:type_of% @Bool.eq_iff_iff:=@Bool.eq_iff_iff
theorem iH:type_of% @beq_self_eq_true:=@beq_self_eq_true
theorem iK:type_of% @List.lookup_cons:=@List.lookup_cons
theorem iM:type_of% @PySem.wpAny_field:=@PySem.wpAny_field
theorem iY:type_of% @congrArg:=@congrArg
theorem ia:type_of% @Nat.lt_irrefl:=@Nat.lt_irrefl
theorem ib:type_of% @List.getD_eq_getElem?_getD:=@List.getD_eq_getElem?_getD
theorem iw:type_of% @if_false:=@if_false
theorem j6:type_of% @Int.zero_add:=@Int.zero_add
theorem jA:type_of% @PySem.wpAny_standAt:=@PySem.wpAny_standAt
theorem jM:type_of% @if_true:=@if_true
theorem jU:type_of% @List.all_eq_true:=@List.all_eq_true
theorem jc:type_of% @PySem.wpAny_seqItems:=@PySem.wpAny_seqItems
theorem kD:type_of% @Option.some.inj:=@Option.some.inj
theorem kE:type_of% @List.take_of_length_le:=@List.take_of_length_le
theorem kO:type_of% @or_false:=@or_false
theorem kr:type_of% @List.not_mem_nil:=@List.not_mem_nil
theorem ku:type_of% @List.getElem?_append_right:=@List.getElem?_append_right
theorem ky:type_of% @List.getElem?_append_left:=@List.getElem?_append_left
theorem lA:type_of% @Int.emod_nonneg:=@Int.emod_nonneg
theorem lB:type_of% @Int.emod_lt_of_pos:=@Int.emod_lt_of_pos
theorem lF:type_of% @PySem.wpAny_call_entry:=@PySem.wpAny_call_entry
theorem mD:type_of% @PySem.F.plainAttrs_list:=@PySem.F.plainAttrs_list
theorem mH:type_of% @List.range_succ:=@List.range_succ
theorem mJ:type_of% @List.length_eq_zero_iff:=@List.length_eq_zero_iff
theorem mN:type_of% @Bool.false_eq_true:=@Bool.false_eq_true
theorem mO:type_of% @Bool.and_true:=@Bool.and_true
theorem mP:type_of% @PySem.wpAny_setField_rec:=@PySem.wpAny_setField_rec
theorem nH:type_of% @decide_eq_decide:=@decide_eq_decide
theorem nP:type_of% @PySem.Txt.slice_le:=@PySem.Txt.slice_le
theorem nS:type_of% @PySem.F.type_list_append:=@PySem.F.type_list_append
theorem nU:type_of% @PySem.F.slot_list_append:=@PySem.F.slot_list_append
theorem nu:type_of% @Nat.lt_succ_self:=@Nat.lt_succ_self
theorem nv:type_of% @Nat.lt_succ_of_lt:=@Nat.lt_succ_of_lt
theorem ny:type_of% @List.mem_iff_getElem?:=@List.mem_iff_getElem?
theorem o0:type_of% @List.length_drop:=@List.length_drop
theorem o4:type_of% @List.getElem?_range:=@List.getElem?_range
theorem o5:type_of% @List.any_cons:=@List.any_cons
theorem o8:type_of% @Classical.byContradiction:=@Classical.byContradiction
theorem o9:type_of% @PySem.wpAny_truthy_bool:=@PySem.wpAny_truthy_bool
theorem oA:type_of% @PySem.wpAny_passesOwn:=@PySem.wpAny_passesOwn
theorem pH:type_of% @beq_eq_false_iff_ne:=@beq_eq_false_iff_ne
theorem pI:type_of% @PyProof.Rows.callWith_type1:=@PyProof.Rows.callWith_type1
theorem pQ:type_of% @List.pairwise_singleton:=@List.pairwise_singleton
theorem pR:type_of% @List.mem_append_left:=@List.mem_append_left
theorem pS:type_of% @List.flatMap_append:=@List.flatMap_append
theorem pT:type_of% @List.filter_append:=@List.filter_append
theorem pU:type_of% @List.append_assoc:=@List.append_assoc
theorem pV:type_of% @List.all_cons:=@List.all_cons
theorem pc:type_of% @Bool.eq_false_iff:=@Bool.eq_false_iff
theorem ph:type_of% @PySem.wpAny_onRaise:=@PySem.wpAny_onRaise
theorem pi:type_of% @PySem.wpAny_newObj_type:=@PySem.wpAny_newObj_type
theorem pj:type_of% @PySem.wpAny_holding:=@PySem.wpAny_holding
theorem pk:type_of% @PySem.wpAny_callSpecial?_slot:=@PySem.wpAny_callSpecial?_slot
theorem py:type_of% @PySem.wpAny_attempt:=@PySem.wpAny_attempt
theorem rj:type_of% @PySem.mem_of_lookup:=@PySem.mem_of_lookup
theorem tF:type_of% @Option.isSome_iff_exists:=@Option.isSome_iff_exists
theorem tG:type_of% @Nat.mul_le_mul:=@Nat.mul_le_mul
theorem tH:type_of% @List.mem_of_mem_take:=@List.mem_of_mem_take
theorem tI:type_of% @List.map_take:=@List.map_take
theorem tJ:type_of% @List.find?_cons:=@List.find?_cons
theorem tK:type_of% @List.filterMap_cons:=@List.filterMap_cons
theorem tL:type_of% @List.countP_cons:=@List.countP_cons
theorem tP:type_of% @PySem.Heap.get?_push_at:=@PySem.Heap.get?_push_at
theorem tQ:type_of% @Array.getElem?_eq_none:=@Array.getElem?_eq_none
theorem tS:type_of% @PySem.wpAny_comprehension_free:=@PySem.wpAny_comprehension_free
theorem tT:type_of% @PySem.wpAny_Call_Name_kw:=@PySem.wpAny_Call_Name_kw
theorem wE:type_of% @bne_self_eq_false:=@bne_self_eq_false
theorem wH:type_of% @PySem.W.mg_of:=@PySem.W.mg_of
theorem wI:type_of% @PySem.F.type_str_join:=@PySem.F.type_str_join
theorem wJ:type_of% @PySem.F.slot_str_join:=@PySem.F.slot_str_join
theorem wK:type_of% @PySem.F.plainAttrs_str:=@PySem.F.plainAttrs_str
theorem wS:type_of% @Nat.sub_self:=@Nat.sub_self
theorem wT:type_of% @Nat.lt_trans:=@Nat.lt_trans
theorem wV:type_of% @List.map_congr_left:=@List.map_congr_left
theorem wY:type_of% @Bool.or_eq_true:=@Bool.or_eq_true
theorem wZ:type_of% @Bool.false_and:=@Bool.false_and
theorem wa:type_of% @Bool.and_false:=@Bool.and_false
theorem wb:type_of% @Array.getD_eq_getD_getElem?:=@Array.getD_eq_getD_getElem?
theorem wc:type_of% @PySem.wpAny_typeNameOf_keyiter:=@PySem.wpAny_typeNameOf_keyiter
theorem wd:type_of% @PySem.wpAny_typeNameOfWhole_keyiter:=@PySem.wpAny_typeNameOfWhole_keyiter
theorem we:type_of% @PySem.wpAny_getItem_str_slice:=@PySem.wpAny_getItem_str_slice
theorem yi:type_of% @PySem.EqBoolInt.of_rcne:=@PySem.EqBoolInt.of_rcne
theorem yp:type_of% @List.getElem?_zip_eq_some:=@List.getElem?_zip_eq_some
theorem yq:type_of% @List.getElem?_drop:=@List.getElem?_drop
theorem yr:type_of% @List.flatMap_cons:=@List.flatMap_cons
theorem yt:type_of% @List.filter_cons_of_pos:=@List.filter_cons_of_pos
theorem yu:type_of% @List.filter_cons_of_neg:=@List.filter_cons_of_neg
theorem yv:type_of% @List.drop_of_length_le:=@List.drop_of_length_le
theorem yw:type_of% @List.countP_le_length:=@List.countP_le_length
theorem zA:type_of% @PySem.F.slot_dict_keyiterator_next:=@PySem.F.slot_dict_keyiterator_next
namespace L2
open PySem PySem.Spec PyProof.Rows
abbrev aQ:=Sum Int Str
def pA:aQ->Value->Bool
 | .inl k,v=>Value.isInt k v
 | .inr x,v=>Value.isStrOf x v
def Lb (w:World):aQ->Int
 | .inl k=>hashInt k
 | .inr x=>hashStr w x
theorem kT:∀{k:aQ}{v:Value},pA k v=true->(∃ i t,k=Sum.inl i/\v=Value.int i t)∨(∃ x t,k=Sum.inr x/\v=Value.str x t)
 | .inl i,v,h=>by
  obtain⟨t,e⟩:=Value.isInt_shape (k:=i) (v:=v) h
  exact .inl ⟨i,t,rfl,e⟩
 | .inr x,v,h=>by
  obtain⟨t,e⟩:=Value.isStrOf_shape (x:=x) (v:=v) h
  exact .inr ⟨x,t,rfl,e⟩
theorem La (i:Int)(t:Tok):pA (.inl i) (.int i t)=true:=by simp[pA,Value.isInt]
theorem LZ (x:Str)(t:Tok):pA (.inr x) (.str x t)=true:=by simp[pA,Value.isStrOf]
theorem LY (a b:Int):decide ((Sum.inl a:aQ)=Sum.inl b)=(a == b):=by
 by_cases e:a=b
 ·subst e; simp
 ·have h:¬ (Sum.inl a:aQ)=Sum.inl b:=λq=>e (Sum.inl.inj q)
  rw[cy h]
  exact(pH.mpr e).symm
theorem LU (a b:Str):decide ((Sum.inr a:aQ)=Sum.inr b)=decide (a=b):=by
 by_cases e:a=b
 ·subst e; simp
 ·have h:¬ (Sum.inr a:aQ)=Sum.inr b:=λq=>e (Sum.inr.inj q)
  rw[cy h,cy e]
theorem LX (a:Int)(b:Str):decide ((Sum.inl a:aQ)=Sum.inr b)=false:=cy (λq=>nomatch q)
theorem LV (a:Str)(b:Int):decide ((Sum.inr a:aQ)=Sum.inl b)=false:=cy (λq=>nomatch q)
def dg (prog:Program)(w:World):PySem.KeyKind prog w aQ where
 is:=pA
 hash:=Lb w
 inj:=λv a b ha hb=>by
  rcases kT ha with⟨i,t,rfl,rfl⟩ | ⟨x,t,rfl,rfl⟩
  ·rcases kT hb with⟨j,u,rfl,e⟩ | ⟨y,u,rfl,e⟩
   ·injection e with e1 _; rw[e1]
   ·exact nomatch e
  ·rcases kT hb with⟨j,u,rfl,e⟩ | ⟨y,u,rfl,e⟩
   ·exact nomatch e
   ·injection e with e1 _; rw[e1]
 byValue:=λk v h=>by
  rcases kT h with⟨i,t,rfl,rfl⟩ | ⟨x,t,rfl,rfl⟩ <;> rfl
 pyHash:=λhv h=>by
  rcases kT hv with⟨i,t,rfl,rfl⟩ | ⟨x,t,rfl,rfl⟩
  ·exact wpAny_pyHash_int h
  ·exact wpAny_pyHash_str h
 eqBool:=λhu hv h=>by
  rcases kT hu with⟨i,t,rfl,rfl⟩ | ⟨x,t,rfl,rfl⟩
  ·rcases kT hv with⟨j,u,rfl,rfl⟩ | ⟨y,u,rfl,rfl⟩
   ·rw[LY] at h; exact wpAny_eqBool_int h
   ·rw[LX] at h; exact SeqAt.EqAt.int_str i t y u _ _ _ _ h
  ·rcases kT hv with⟨j,u,rfl,rfl⟩ | ⟨y,u,rfl,rfl⟩
   ·rw[LV] at h; exact SeqAt.EqAt.str_int x t j u _ _ _ _ h
   ·rw[LU] at h; exact wpAny_eqBool_str h
 «strs» := λk x t v h=>by
  rcases kT h with⟨i,u,rfl,e⟩ | ⟨y,u,rfl,e⟩
  ·exact nomatch e
  ·injection e with e1 _
   subst e1
   cases v <;> rfl
theorem L8 (prog:Program)(w:World)(i:Int)(t:Tok):(dg prog w).is (.inl i) (.int i t)=true:=La i t
theorem L7 (prog:Program)(w:World)(x:Str)(t:Tok):(dg prog w).is (.inr x) (.str x t)=true:=LZ x t
inductive V where
 | non | bl (b:Bool) | int (i:Int) | str (x:Str) | byt (b:Array UInt8) | flt (b:UInt64) | ref (a:Addr) | ty (n:String)
 deriving DecidableEq
def RelV:V->Value->Prop
 | .non,u=>u=Value.none
 | .bl b,u=>u=Value.bool b
 | .int i,u=>∃ t,u=Value.int i t
 | .str x,u=>∃ t,u=Value.str x t
 | .byt b,u=>∃ t,u=Value.bytes b t
 | .flt b,u=>∃ t,u=Value.float b t
 | .ref a,u=>u=Value.ref a
 | .ty n,u=>u=Value.type n
abbrev ai:List V->List Value->Prop:=Paired RelV
theorem ai.length {xs:List V}{us:List Value}(r:ai xs us):xs.length=us.length:=Paired.length r
theorem ai.get:∀{xs:List V}{us:List Value}{i:Nat}{x:V},ai xs us->xs[i]? = some x->∃ u,us[i]? = some u/\RelV x u
 | _,_,_,_,.nil,e=>by simp at e
 | _,_,0,_,.cons r _,e=>by simp at e; subst e; exact⟨_,rfl,r⟩
 | _,_,i + 1,x,.cons _ t,e=>by
  obtain⟨u,h1,h2⟩:=ai.get (i:=i) (x:=x) t (by simpa using e)
  exact⟨u,by simpa using h1,h2⟩
theorem ai.set {x:V}{u:Value}(r:RelV x u):∀{xs:List V}{us:List Value}(i:Nat),ai xs us->ai (xs.set i x) (us.set i u)
 | _,_,_,.nil=>.nil
 | _,_,0,.cons _ t=>.cons r t
 | _,_,i + 1,.cons q t=>.cons q (ai.set r i t)
theorem ai.append:∀{xs ys:List V}{us ws:List Value},ai xs us->ai ys ws->ai (xs ++ ys) (us ++ ws)
 | _,_,_,_,.nil,s=>s
 | _,_,_,_,.cons r t,s=>.cons r (ai.append t s)
theorem ai.take:∀{xs:List V}{us:List Value}(n:Nat),ai xs us->ai (xs.take n) (us.take n)
 | _,_,0,_=>.nil
 | _,_,_ + 1,.nil=>.nil
 | _,_,n + 1,.cons r t=>.cons r (ai.take n t)
theorem ai.drop:∀{xs:List V}{us:List Value}(n:Nat),ai xs us->ai (xs.drop n) (us.drop n)
 | _,_,0,r=>r
 | _,_,_ + 1,.nil=>.nil
 | _,_,n + 1,.cons _ t=>ai.drop n t
def fR:Option V->Option Value->Prop
 | some v,some u=>RelV v u
 | none,none=>True
 | _,_=>False
def KV {κ:Type}:List (κ×V)->List (κ×Value)->Prop:=Paired λ(p:κ×V) (q:κ×Value)=>p.1=q.1/\RelV p.2 q.2
def kV:aQ->V
 | .inl i=>.int i
 | .inr x=>.str x
inductive HO where
 /-- a list -/
 | lst (xs:List V)
 /-- a tuple (never changes) -/
 | tup (xs:List V)
 /-- a dict whose keys are ints and texts; one whose keys are tuples of ints and texts (the empty one is both) -/
 | dK (kvs:List (aQ×V)) | dT (kvs:List (List aQ×V))
 /-- a set of ints: its members,its size -/
 | set (S:Int->Bool) (n:Nat)
 /-- an instance of the class at C,its dict at dx,its attributes -/
 | ins (C dx:Addr) (fs:List (Str×V))
 /-- the dict of the instance at x -/
 | own (x:Addr)
 /-- the dict of an exception -/
 | xd (fs:List (Str×V))
 /-- a bound method,f of x -/
 | met (f x:Addr)
 /-- a range object lo,lo + 1,.. below hi -/
 | rng (lo hi:Int)
 /-- a thing that is known to the object (the script; a dict while a loop walks it): read,never written while it is so -/
 | frz (o:Obj) (u:HO)
 /-- a code object's table -/
 | tbl (ps:Array Value)
 /-- any other thing,by what is true of its one object (a def of one's own: SetO a S n:=HO.ext λh=>..) -/
 | ext (φ:Heap->Prop)
abbrev Hp:=Addr->Option HO
def upd (H:Hp)(a:Addr)(o:HO):Hp:=λb=>if b=a then some o else H b
theorem aF {H:Hp}{a:Addr}{o:HO}:upd H a o a=some o:=by unfold upd; rw[aP rfl]
theorem aj {H:Hp}{a b:Addr}{o:HO}(h:b≠a):upd H a o b=H b:=by unfold upd; rw[aN h]
theorem KZ {H:Hp}{a b:Addr}{o u:HO}(h:H a=some o)(h':H b=some u)(d:o≠u):a≠b:=by
 intro e; subst e; rw[h] at h'; exact d (kD h')
theorem hU {H:Hp}{a b:Addr}{o:HO}(h:H a=some o)(h':H b=none):a≠b:=by
 intro e; subst e; rw[h] at h'; cases h'
section
variable (P:Program) (w:World)
def dL (H:Hp)(h:Heap)(a:Addr):HO->Prop
 | .lst xs=>xs.length<=sizeLine/\∃(its:List Value) (n:Nat),ai xs its/\h.get? a=some { cls:=.type "list",data:=.seq its.toArray n }
 | .tup xs=>xs.length<=sizeLine/\∃ its:List Value,ai xs its/\IsTup h a its.toArray
 | .dK kvs=>kvs.length<=sizeLine/\(a == sysModules)=false/\∃ vs,KV kvs vs/\h.DictOf (dg P w) a vs
 | .dT kvs=>kvs.length<=sizeLine/\(a == sysModules)=false/\∃ xs:List (List aQ×Addr×Value),
   Paired (λ(p:List aQ×V) (q:List aQ×Addr×Value)=>p.1=q.1/\H q.2.1=some (.tup (p.1.map kV))/\RelV p.2 q.2.2) kvs xs /\
   ∃ o es ep,h.get? a=some o/\o.ExactDict/\o.data=.dict es ep/\es.toList=xs.map (entryOfKey (tupleKind (dg P w)))/\(xs.map (·.1)).Nodup
 | .set S n=>h.SetOf (intKind P w) a S n
 | .ins C dx fs=>H dx=some (.own a)/\fs.length<=1000/\dx≠a/\h.get? a=some (PySem.W.instObj C dx) /\
   ∃ mA,h.Ns1 dx mA/\(∀ f,fR (fs.lookup f) (mA f))/\PySem.Within mA (fs.map (·.1))
 | .own _=>∃ o,h.get? a=some o
 | .xd fs=>∃ mA,h.Ns1 a mA/\∀ f,fR (fs.lookup f) (mA f)
 | .rng lo hi=>∃ t u v,h.get? a=some { cls:=.type "range",data:=.fields #[.int lo t,.int hi u,.int 1 v] }
 | .frz o u=>h.get? a=some o/\dL H h a u
 | .tbl ps=>h.get? a=some { cls:=.none,data:=.fields ps }
 | .met f x=>h.get? a=some (PySem.W.methodObj (.ref f) (.ref x))
 | .ext φ=>φ h/\(∃ o,h.get? a=some o)/\∀ h1 h2:Heap,φ h1->(∀ o,h1.get? a=some o->h2.get? a=some o)->φ h2
def cj (H:Hp)(h:Heap):Prop:=∀ a o,H a=some o->dL P w H h a o
end
section
variable {P:Program}{w:World}{H H':Hp}{h h':Heap}{a:Addr}{o:HO}
theorem dL.lt (x:dL P w H h a o):a < h.objs.size:=by
 cases o with
 | lst xs=>obtain⟨_,_,_,_,e⟩:=x; exact bU e
 | tup xs=>obtain⟨_,_,_,p⟩:=x; exact p.lt
 | dK kvs=>obtain⟨_,_,_,_,o,_,_,e,_⟩:=x; exact bU e
 | dT kvs=>obtain⟨_,_,_,_,o,_,_,e,_⟩:=x; exact bU e
 | set S n=>obtain⟨o,_,_,_,e,_⟩:=x; exact bU e
 | ins C dx fs=>obtain⟨_,_,_,e,_⟩:=x; exact bU e
 | own y=>obtain⟨_,e⟩:=x; exact bU e
 | xd fs=>obtain⟨_,⟨_,_,_,e,_⟩,_⟩:=x; exact bU e
 | rng lo hi=>obtain⟨_,_,_,e⟩:=x; exact bU e
 | frz ob u=>obtain⟨e,_⟩:=x; exact bU e
 | tbl ps=>exact bU (show h.get? a=some _ from x)
 | met f y=>exact bU (show h.get? a=some _ from x)
 | ext φ=>obtain⟨_,⟨_,e⟩,_⟩:=x; exact bU e
theorem wM {α β:Type}{F G:α->β->Prop}:∀{l₁:List α}{l₂:List β},Paired F l₁ l₂->(∀ a b,F a b->G a b)->Paired G l₁ l₂
 | _,_,.nil,_=>.nil
 | _,_,.cons r t,f=>.cons (f _ _ r) (wM t f)
theorem dL.stay (x:dL P w H h a o)(k:∀ b u,(b=a∨H b=some (.own a))->h.get? b=some u->h'.get? b=some u)
  (ho:∀ b,H b=some (.own a)->H' b=some (.own a)) (ht:∀ b xs,H b=some (.tup xs)->H' b=some (.tup xs)):dL P w H' h' a o:=by
 induction o with
 | lst xs=>obtain⟨z,its,n,r,e⟩:=x; exact⟨z,its,n,r,k _ _ (.inl rfl) e⟩
 | tup xs=>obtain⟨z,its,r,ob,e,c⟩:=x; exact⟨z,its,r,ob,k _ _ (.inl rfl) e,c⟩
 | dK kvs=>obtain⟨z,y,vs,r,ob,es,ep,e,c⟩:=x; exact⟨z,y,vs,r,ob,es,ep,k _ _ (.inl rfl) e,c⟩
 | dT kvs =>
  obtain⟨z,y,xs,r,ob,es,ep,e,c⟩:=x
  exact⟨z,y,xs,wM r λp q z=>⟨z.1,ht _ _ z.2.1,z.2.2⟩,ob,es,ep,k _ _ (.inl rfl) e,c⟩
 | set S n=>obtain⟨ob,es,ep,t,e,c⟩:=x; exact⟨ob,es,ep,t,k _ _ (.inl rfl) e,c⟩
 | ins C dx fs =>
  obtain⟨d,z,ne,e,mA,⟨od,es,ep,e2,c⟩,r⟩:=x
  exact⟨ho _ d,z,ne,k _ _ (.inl rfl) e,mA,⟨od,es,ep,k _ _ (.inr d) e2,c⟩,r⟩
 | own y=>obtain⟨ob,e⟩:=x; exact⟨ob,k _ _ (.inl rfl) e⟩
 | xd fs=>obtain⟨mA,⟨od,es,ep,e,c⟩,r⟩:=x; exact⟨mA,⟨od,es,ep,k _ _ (.inl rfl) e,c⟩,r⟩
 | rng lo hi=>obtain⟨t,u,v,e⟩:=x; exact⟨t,u,v,k _ _ (.inl rfl) e⟩
 | frz ob u ih=>obtain⟨e,q⟩:=x; exact⟨k _ _ (.inl rfl) e,ih q⟩
 | tbl ps =>
  have e:h.get? a=some { cls:=.none,data:=.fields ps }:=x
  show h'.get? a=some { cls:=.none,data:=.fields ps }
  exact k a _ (.inl rfl) e
 | met f y =>
  have e:h.get? a=some (PySem.W.methodObj (.ref f) (.ref y)):=x
  show h'.get? a=some (PySem.W.methodObj (.ref f) (.ref y))
  exact k a _ (.inl rfl) e
 | ext φ=>obtain⟨p,⟨o,e⟩,st⟩:=x; exact⟨st _ _ p λo q=>k _ _ (.inl rfl) q,⟨o,k _ _ (.inl rfl) e⟩,st⟩
theorem cj.lt (x:cj P w H h)(e:H a=some o):a < h.objs.size:=(x a o e).lt
theorem cj.fresh (x:cj P w H h)(e:h.objs.size<=a):H a=none:=by
 cases q:H a with
 | none=>rfl
 | some u=>exact absurd (gO (x.lt q) e) (ia _)
theorem cj.kept (x:cj P w H h)(k:∀ b u,h.get? b=some u->h'.get? b=some u):cj P w H h':=λa o e =>
 (x a o e).stay (λb u _ q=>k b u q) (λ_ q=>q) λ_ _ q=>q
theorem cj.laid (x:cj P w H h)(k:∀ b u,h.get? b=some u->h'.get? b=some u)(hp:h.objs.size<=a)(new:dL P w (upd H a o) h' a o):cj P w (upd H a o) h':=λb u e=>by
 have hn:=x.fresh hp
 by_cases hb:b=a
 ·subst hb; rw[aF] at e; cases e; exact new
 ·rw[aj hb] at e
  exact(x b u e).stay (λc v _ q=>k c v q) (λc q=>by rw[aj (hU q hn)]; exact q) λc xs q=>by rw[aj (hU q hn)]; exact q
end
def Rd (H:Hp)(a:Addr)(u:HO):Prop:=H a=some u∨∃ o,H a=some (.frz o u)
theorem Rd.ok {P:Program}{w:World}{H:Hp}{h:Heap}{a:Addr}{u:HO}(r:Rd H a u)(x:cj P w H h):dL P w H h a u:=by
 rcases r with r | ⟨o,r⟩
 ·exact x a u r
 ·obtain⟨_,q⟩:=x a _ r
  exact q
def pP:Option HO->Prop
 | some (.lst _)=>True
 | some (.dK _)=>True
 | some (.dT _)=>True
 | some (.set _ _)=>True
 | some (.ins _ _ _)=>True
 | some (.ext _)=>True
 | _=>False
section
variable {P:Program}{w:World}{H:Hp}{h h':Heap}{x e:Addr}{o':HO}
theorem cj.write (ok:cj P w H h)(mu:pP (H x))(he:e=x∨H e=some (.own x))(k:∀ b u,b≠e->h.get? b=some u->h'.get? b=some u)(heo:∃ u,h'.get? e=some u)
  (new:dL P w (upd H x o') h' x o'):cj P w (upd H x o') h':=λb u q=>by
 have nown:∀ c y,H c=some (.own y)->c≠x:=λc y r z=>by subst z; rw[r] at mu; exact mu
 have ntup:∀ c xs,H c=some (.tup xs)->c≠x:=λc xs r z=>by subst z; rw[r] at mu; exact mu
 by_cases hb:b=x
 ·subst hb; rw[aF] at q; cases q; exact new
 ·rw[aj hb] at q
  by_cases hbe:b=e
  ·have q':H b=some (.own x):=by
    rcases he with z | z
    ·exact absurd (hbe.trans z) hb
    ·rw[hbe]; exact z
   rw[q] at q'; cases q'
   obtain⟨v,hv⟩:=heo
   exact⟨v,by rw[hbe]; exact hv⟩
  ·refine(ok b u q).stay (λc v hc r=>k c v ?_ r) (λc r=>by rw[aj (nown c b r)]; exact r) λc xs r=>by rw[aj (ntup c xs r)]; exact r
   rcases hc with rfl | hc
   ·exact hbe
   ·rintro rfl
    rcases he with z | z
    ·exact nown c b hc z
    ·rw[hc] at z; cases z; exact hb rfl
end
structure Un (fs ex:List Addr) (H H':Hp) (h h':Heap):Prop where
 keep:∀ b o,h.get? b=some o->H b=none->b∉fs->b∉ex->h'.get? b=some o
 slot:∀ b o,h.get? b=some o->H b=none->b∈fs->b∉ex->∃ sl,h'.get? b=some { o with slots:=sl }
 free:∀ b o,h.get? b=some o->H b=none->b∉ex->H' b=none
 there:∀ b o,h.get? b=some o->b∉ex->∃ o',h'.get? b=some o'
 tups:∀ b xs,H b=some (.tup xs)->H' b=some (.tup xs)
 frzs:∀ b o u,H b=some (.frz o u)->H' b=some (.frz o u)
 tbls:∀ b ps,H b=some (.tbl ps)->∃ more,H' b=some (.tbl (ps ++ more))
section
variable {fs fs' ex ex':List Addr}{H H1 H2:Hp}{h h1 h2 h':Heap}{a x e:Addr}{o:HO}
theorem Un.any (u:Un fs ex H H1 h h1){b:Addr}{ob:Obj}(q:h.get? b=some ob)(n:H b=none)(hx:b∉ex):∃ sl,h1.get? b=some { ob with slots:=sl }:=by
 by_cases hb:b∈fs
 ·exact u.slot b ob q n hb hx
 ·exact⟨ob.slots,u.keep b ob q n hb hx⟩
theorem Un.kept (k:∀ b u,h.get? b=some u->h'.get? b=some u):Un fs ex H H h h' :=
 ⟨λb ob q _ _ _=>k b ob q,λb ob q _ _ _=>⟨ob.slots,k b ob q⟩,λ_ _ _ n _=>n,λb ob q _=>⟨ob,k b ob q⟩,λ_ _ q=>q,λ_ _ _ q=>q,λ_ ps q=>⟨#[],by rw[q]; simp⟩⟩
theorem Un.refl:Un fs ex H H h h:=Un.kept λ_ _ q=>q
theorem Un.laid (k:∀ b u,h.get? b=some u->h'.get? b=some u)(hp:h.objs.size<=a)(hn:H a=none):Un fs ex H (upd H a o) h h' where
 keep:=λb u q _ _ _=>k b u q
 slot:=λb u q _ _ _=>⟨u.slots,k b u q⟩
 free:=λb u q n _=>by rw[aj (cQ (gO (bU q) hp))]; exact n
 there:=λb u q _=>⟨u,k b u q⟩
 tups:=λb xs q=>by rw[aj (hU q hn)]; exact q
 frzs:=λb u xs q=>by rw[aj (hU q hn)]; exact q
 tbls:=λb ps q=>⟨#[],by rw[aj (hU q hn),q]; simp⟩
theorem Un.write (mu:pP (H x))(he:e=x∨H e=some (.own x))(k:∀ b u,b≠e->h.get? b=some u->h'.get? b=some u)(heo:∃ u,h'.get? e=some u):Un fs ex H (upd H x o) h h':=by
 have hx:∀ b,H b=none->b≠x:=λb n z=>by subst z; rw[n] at mu; exact mu
 have hb:∀ b,H b=none->b≠e:=λb n z=>by
  subst z
  rcases he with r | r
  ·exact hx b n r
  ·rw[n] at r; cases r
 have hm:∀ b u,H b=some u->¬ pP (some u)->b≠x:=λb u q nm z=>by subst z; rw[q] at mu; exact nm mu
 refine⟨λb u q n _ _=>k b u (hb b n) q,λb u q n _ _=>⟨u.slots,k b u (hb b n) q⟩,λb u q n _=>by rw[aj (hx b n)]; exact n,λb u q _=>?_,
  λb xs q=>by rw[aj (hm b _ q λz=>z)]; exact q,λb u xs q=>by rw[aj (hm b _ q λz=>z)]; exact q,λb ps q=>⟨#[],by rw[aj (hm b _ q λz=>z),q]; simp⟩⟩
 by_cases hbe:b=e
 ·subst hbe; exact heo
 ·exact⟨u,k b u hbe q⟩
end
def tY (h:Heap)(H:Hp):List Addr:=(List.range h.objs.size).filter λa=>(H a).isSome
def kW (h:Heap)(H:Hp):Heap:=PySem.W.hideAll h (tY h H)
theorem Lz (h:Heap)(H:Hp):(kW h H).objs.size=h.objs.size:=PySem.W.hideAll_size _ _
theorem M3 {h:Heap}{H:Hp}{b:Addr}{o:Obj}(e:h.get? b=some o)(n:H b=none):(kW h H).get? b=some o :=
 PySem.W.hideAll_get _ e λhm=>by
  have q:(H b).isSome=true:=(cY.mp hm).2
  rw[n] at q; simp at q
theorem KH {h:Heap}{H:Hp}{b:Addr}{o:Obj}(e:(kW h H).get? b=some o):h.get? b=some o/\H b=none:=by
 have e':h.get? b=some o:=PySem.W.of_hideAll (tY h H) e
 refine⟨e',?_⟩
 cases q:H b with
 | none=>rfl
 | some x =>
  have hm:b∈tY h H:=cY.mpr ⟨bK.mpr (bU e'),by simp[q]⟩
  have z:(kW h H).get? b=none:=PySem.W.hideAll_none (tY h H) hm
  rw[z] at e; cases e
def Nj (g h:Heap)(L:Addr):List (Addr×Obj):=(List.range h.objs.size).filterMap λa=>if a=L∨(g.get? a).isSome=true then none else (h.get? a).map λo=>(a,o)
def cC (g h:Heap)(L d:Addr):List (Addr×Obj):=(Nj g h L).filter λp=>decide (p.1≠d)
structure Mod (K:PySem.W.Frag) (mg:Str->Option Value) (base:Heap):Prop where
 kin:K.In base
 glob:base.Ns mainGlobals mg
 blt:∃ mb,base.Ns builtinsNs mb/\∀ x:Str,x ≠ "__name__" -> mb x=bootBuiltins x
 nolimit:base.NoLimit
structure Cx where
 prog:Program
 w:World
 K:PySem.W.Frag
 mg:Str->Option Value
 base:Heap
 A:Around
 N:List Str
 s₀:Shared
 H₀:Hp
 env:Env
 outer:List Env
 stack:List Env
 ex:List Addr
 fn:Str->Bool
 calm:Bool
 pn:List (Addr×Obj)
 xe:Value->Shared->Prop
def iE (l:List Env):List Addr:=l.filterMap (·.frame)
abbrev Cx.fs (X:Cx):List Addr:=iE X.outer
def yd (sc:Scope)(x:Str):Prop:=sc.names.lookup x=some .local∨sc.names.lookup x=some .cell∨sc.names.lookup x=some .free
def wU (sc:Scope)(x:Str):Prop:=sc.names.lookup x=some .local∨sc.names.lookup x=some .cell
def OU (env:Env)(h:Heap)(m:Str->Option Value)(x:Str)(u:Value):Prop :=
 (env.kindOf x=some .local/\m x=some u)∨((env.kindOf x=some .cell∨env.kindOf x=some .free)/\∃ c,env.cells.lookup x=some c/\h.IsCell c (some u))
structure Cx.Ok (X:Cx):Prop where
 mod:Mod X.K X.mg X.base
 kind:X.env.scope.kind=.function
 glob:X.env.globals=mainGlobals
 blt:X.env.builtins=builtinsNs
 above:X.s₀.heap.objs.size<=X.env.locals
 inj:∀ x y c,X.env.cells.lookup x=some c->X.env.cells.lookup y=some c->x=y
 has:∀ x,(X.env.kindOf x=some .cell∨X.env.kindOf x=some .free)->∃ c,X.env.cells.lookup x=some c
 cab:∀ x c,X.fn x=true->X.env.cells.lookup x=some c->X.s₀.heap.objs.size<=c
 hd:X.calm=true->X.A.handled=none
 frames:X.A.frames=some X.stack
 stk:X.stack=X.outer∨(X.stack=X.env :: X.outer/\X.env.frame=some X.env.locals)
 exf:∀ b∈X.ex,b≠X.env.locals/\∀ x c,X.env.cells.lookup x=some c->c≠b
 bs:∀ b o,X.base.get? b=some o->X.s₀.heap.get? b=some o/\X.H₀ b=none
 bsz:X.base.objs.size<=X.s₀.heap.objs.size
 noex:∀ b o,X.base.get? b=some o->b∉X.ex
 exfs:∀ b∈X.ex,b∉X.fs
 funs:X.s₀.heap.FunFrames X.base X.outer
 frf:∀ b∈X.fs,X.H₀ b=none
structure Inv (X:Cx) (pins:List (Addr×Obj)) (σ:List (Option V)) (H:Hp) (s:Shared):Prop where
 ok:X.Ok
 os:s.os=X.s₀.os
 bare:AllBare s.gens
 base:Un X.fs X.ex X.H₀ H X.s₀.heap s.heap
 loc:∃ m,s.heap.Ns X.env.locals m/\∀(i:Nat) (x:Str) (v:V),X.N[i]? = some x->σ[i]? = some (some v)->yd X.env.scope x->∃ u,RelV v u/\OU X.env s.heap m x u
 cell:∀ x c,X.env.cells.lookup x=some c->∃ v,s.heap.IsCell c v
 free:H X.env.locals=none
 freeC:∀ x c,X.env.cells.lookup x=some c->H c=none
 pin:∀ p∈X.pn ++ pins,s.heap.get? p.1=some p.2/\H p.1=none/\p.1≠X.env.locals/\p.1∉X.fs/\∀ v,p.2.data≠.cell v
 hok:cj X.prog X.w H s.heap
 len:σ.length=X.N.length
section
variable {X:Cx}{pins:List (Addr×Obj)}{σ:List (Option V)}{H H':Hp}{s:Shared}{h':Heap}
theorem Cx.Ok.nofr (ok:X.Ok){b:Addr}{o:Obj}(e:X.base.get? b=some o):b∉X.fs:=λhb=>by
 have:=(ok.funs.mem hb).1
 rw[e] at this; cases this
theorem Inv.bs (I:Inv X pins σ H s):∀ b o,X.base.get? b=some o->s.heap.get? b=some o/\H b=none:=λb o e =>
 ⟨I.base.keep b o (I.ok.bs b o e).1 (I.ok.bs b o e).2 (I.ok.nofr e) (I.ok.noex b o e),I.base.free b o (I.ok.bs b o e).1 (I.ok.bs b o e).2 (I.ok.noex b o e)⟩
theorem Inv.bk (I:Inv X pins σ H s):∀ b o,X.base.get? b=some o->s.heap.get? b=some o:=λb o e=>(I.bs b o e).1
theorem Inv.mod (I:Inv X pins σ H s):Mod X.K X.mg X.base:=I.ok.mod
theorem Inv.kIn (I:Inv X pins σ H s):X.K.In s.heap:=I.ok.mod.kin.keeps I.bk
theorem Inv.lt (I:Inv X pins σ H s):X.env.locals < s.heap.objs.size:=let ⟨_,hn,_⟩:=I.loc; hn.lt
theorem Inv.sz (I:Inv X pins σ H s):X.s₀.heap.objs.size<=s.heap.objs.size:=b8 I.ok.above (Nat.le_of_lt I.lt)
theorem Inv.nofs (I:Inv X pins σ H s){a:Addr}(h:s.heap.objs.size<=a):a∉X.fs:=λhb=>by
 obtain⟨_,o,ho,_⟩:=I.ok.funs.mem hb
 exact absurd (gO (bU ho) (b8 I.sz h)) (ia _)
theorem Inv.cne (I:Inv X pins σ H s):∀ x c,X.env.cells.lookup x=some c->c≠X.env.locals:=λx c e z=>by
 obtain⟨v,o,ho,hd⟩:=I.cell x c e
 obtain⟨m,⟨o',es,ep,ho',hd',_⟩,_⟩:=I.loc
 rw[z,ho'] at ho; cases ho; rw[hd'] at hd; cases hd
theorem Inv.funs (I:Inv X pins σ H s):s.heap.FunFrames X.base X.outer:=by
 have all:∀(l:List Env),(∀ b∈iE l,b∈X.fs)->X.s₀.heap.FunFrames X.base l->s.heap.FunFrames X.base l:=by
  intro l
  induction l with
  | nil=>intro _ _; trivial
  | cons env r ih =>
   intro hs hl
   obtain⟨hk,⟨L,o,hf,hn,ho,hd⟩,hr⟩:=hl
   have hL:L∈X.fs:=hs L (by unfold iE; rw[tK,hf]; exact eJ)
   obtain⟨sl,e⟩:=I.base.slot L o ho (I.ok.frf L hL) hL λz=>I.ok.exfs L z hL
   exact⟨hk,⟨L,_,hf,hn,e,hd⟩,ih (λb hb=>hs b (by unfold iE; rw[tK,hf]; exact dy _ hb)) hr⟩
 exact all X.outer (λ_ hb=>hb) I.ok.funs
theorem Inv.stack (I:Inv X pins σ H s):s.heap.FunFrames X.base X.stack:=by
 rcases I.ok.stk with e | ⟨e,hf⟩
 ·rw[e]; exact I.funs
 ·rw[e]
  obtain⟨m,hn,_⟩:=I.loc
  refine .cons (by rw[I.ok.kind]; decide) hf hn ?_ I.funs
  exact Heap.get?_none_of_le (b8 I.ok.bsz I.ok.above)
theorem Inv.stkSub (I:Inv X pins σ H s):∀ b∈iE X.stack,b∈X.env.locals :: X.fs:=λb hb=>by
 rcases I.ok.stk with e | ⟨e,hf⟩
 ·rw[e] at hb; exact dy _ hb
 ·rw[e] at hb
  unfold iE at hb
  rw[tK,hf] at hb
  exact hb
theorem Inv.stkFree (I:Inv X pins σ H s):∀ b∈iE X.stack,H b=none:=λb hb=>by
 rcases bh.mp (I.stkSub b hb) with e | hb
 ·rw[e]; exact I.free
 ·obtain⟨_,o,ho,_⟩:=I.ok.funs.mem hb
  exact I.base.free b o ho (I.ok.frf b hb) λz=>I.ok.exfs b z hb
theorem Inv.step {g':Array GenState}{t':Nat}{d':Drawn}{ch:List Addr}(I:Inv X pins σ H s)
  (hch:∀ b∈ch,(b∈X.ex∨X.s₀.heap.objs.size<=b)/\b≠X.env.locals/\(∀ x c,X.env.cells.lookup x=some c->c≠b)/\∀ p∈X.pn ++ pins,p.1≠b)
  (keep:∀ b o,b≠X.env.locals->b∉X.fs->b∉ch->s.heap.get? b=some o->H b=none->h'.get? b=some o)
  (slot:∀ b o,b≠X.env.locals->b∈X.fs->b∉ch->s.heap.get? b=some o->H b=none->∃ sl,h'.get? b=some { o with slots:=sl }) (free:∀ b o,b∉ch->s.heap.get? b=some o->H b=none->H' b=none)
  (there:∀ b o,b∉ch->s.heap.get? b=some o->∃ o',h'.get? b=some o')
  (tups:∀ b xs,H b=some (.tup xs)->H' b=some (.tup xs)) (frzs:∀ b o u,H b=some (.frz o u)->H' b=some (.frz o u)) (tbls:∀ b ps,H b=some (.tbl ps)->∃ more,H' b=some (.tbl (ps ++ more)))
  (ns:∀ m,s.heap.Ns X.env.locals m->h'.Ns X.env.locals m) (hok:cj X.prog X.w H' h') (hg:AllBare g') :
  Inv X pins σ H' { s with heap:=h',gens:=g',drawn:=d',toks:=t' }:=by
 have neL:∀ b o,X.s₀.heap.get? b=some o->b≠X.env.locals:=λb o e=>cQ (gO (bU e) I.ok.above)
 have neC:∀ b o,X.s₀.heap.get? b=some o->b∉X.ex->b∉ch:=λb o e hx hb=>by
  rcases(hch b hb).1 with z | z
  ·exact hx z
  ·exact absurd (gO (bU e) z) (ia _)
 have cellK:∀ x c,X.env.cells.lookup x=some c->∀ v,s.heap.IsCell c v->h'.IsCell c v:=λx c e v ⟨o,ho,hd⟩=>by
  have nch:c∉ch:=λz=>(hch c z).2.2.1 x c e rfl
  by_cases hc:c∈X.fs
  ·obtain⟨sl,q⟩:=slot c o (I.cne x c e) hc nch ho (I.freeC x c e)
   exact⟨_,q,hd⟩
  ·exact⟨o,keep c o (I.cne x c e) hc nch ho (I.freeC x c e),hd⟩
 refine⟨I.ok,I.os,hg,⟨λb o e n hb hx=>?_,λb o e n hb hx=>?_,λb o e n hx=>?_,λb o e hx=>?_,λb xs e=>tups b xs (I.base.tups b xs e),λb o xs e=>frzs b o xs (I.base.frzs b o xs e),λb ps e=>?_⟩,?_,λx c e=>?_,?_,λx c e=>?_,λp hp=>?_,hok,I.len⟩
 ·exact keep b o (neL b o e) hb (neC b o e hx) (I.base.keep b o e n hb hx) (I.base.free b o e n hx)
 ·obtain⟨sl,e1⟩:=I.base.slot b o e n hb hx
  obtain⟨sl',e2⟩:=slot b _ (neL b o e) hb (neC b o e hx) e1 (I.base.free b o e n hx)
  exact⟨sl',e2⟩
 ·obtain⟨o',e1⟩:=I.base.there b o e hx
  exact free b o' (neC b o e hx) e1 (I.base.free b o e n hx)
 ·obtain⟨o',e1⟩:=I.base.there b o e hx
  exact there b o' (neC b o e hx) e1
 ·obtain⟨m1,e1⟩:=I.base.tbls b ps e
  obtain⟨m2,e2⟩:=tbls b _ e1
  exact⟨m1 ++ m2,by rw[e2,Array.append_assoc]⟩
 ·obtain⟨m,hn,hl⟩:=I.loc
  refine⟨m,ns m hn,λi x v e1 e2 e3=>?_⟩
  obtain⟨u,r,l⟩:=hl i x v e1 e2 e3
  refine⟨u,r,?_⟩
  rcases l with l | ⟨k,c,e,z⟩
  ·exact .inl l
  ·exact .inr ⟨k,c,e,cellK x c e _ z⟩
 ·obtain⟨v,z⟩:=I.cell x c e
  exact⟨v,cellK x c e v z⟩
 ·obtain⟨m,⟨o,_,_,ho,_⟩,_⟩:=I.loc
  exact free _ o (λz=>(hch _ z).2.1 rfl) ho I.free
 ·obtain⟨v,o,ho,hd⟩:=I.cell x c e
  exact free c o (λz=>(hch c z).2.2.1 x c e rfl) ho (I.freeC x c e)
 ·obtain⟨e,n,ne,nf,d⟩:=I.pin p hp
  have nch:p.1∉ch:=λz=>(hch p.1 z).2.2.2 p hp rfl
  exact⟨keep p.1 p.2 ne nf nch e n,free p.1 p.2 nch e n,ne,nf,d⟩
theorem Inv.un {t':Nat}(I:Inv X pins σ H s)(u:Un X.fs [] H H' s.heap h')(hok:cj X.prog X.w H' h'):Inv X pins σ H' { s with heap:=h',toks:=t' }:=by
 obtain⟨m,⟨o,es,ep,ho,r⟩,_⟩:=id I.loc
 obtain⟨sl,hL⟩:=u.any ho I.free (by simp)
 exact I.step (g':=s.gens) (d':=s.drawn) (ch:=[]) (λ_ z=>nomatch z) (λb o _ hb _ e n=>u.keep b o e n hb (by simp)) (λb o _ hb _ e n=>u.slot b o e n hb (by simp)) (λb o _ e n=>u.free b o e n (by simp)) (λb o _ e=>u.there b o e (by simp)) u.tups u.frzs u.tbls (λm' hm=>by
  obtain⟨o',es',ep',ho',r'⟩:=hm
  rw[ho] at ho'; cases ho'
  exact⟨_,es',ep',hL,r'⟩) hok I.bare
theorem Inv.call {g':Array GenState}{t':Nat}{d':Drawn}{ch:List Addr}(I:Inv X pins σ H s)(u:Un (iE X.stack) ch H H' s.heap h')(hok:cj X.prog X.w H' h')(hg:AllBare g')
  (hch:∀ b∈ch,(b∈X.ex∨X.s₀.heap.objs.size<=b)/\b≠X.env.locals/\(∀ x c,X.env.cells.lookup x=some c->c≠b)/\∀ p∈X.pn ++ pins,p.1≠b) :
  Inv X pins σ H' { s with heap:=h',gens:=g',drawn:=d',toks:=t' }:=by
 obtain⟨m,⟨o,es,ep,ho,r⟩,_⟩:=id I.loc
 obtain⟨sl,hL⟩:=u.any ho I.free λz=>(hch _ z).2.1 rfl
 exact I.step (ch:=ch) hch (λb o hL hb hc e n=>u.keep b o e n (λz=>(bh.mp (I.stkSub b z)).elim hL hb) hc) (λb o _ _ hc e n=>u.any e n hc) (λb o hc e n=>u.free b o e n hc) (λb o hc e=>u.there b o e hc) u.tups u.frzs u.tbls (λm' hm=>by
  obtain⟨o',es',ep',ho',r'⟩:=hm
  rw[ho] at ho'; cases ho'
  exact⟨_,es',ep',hL,r'⟩) hok hg
theorem Inv.turned {t':Nat}{it:Addr}(I:Inv X pins σ H s)(k:∀ b o,b≠it->s.heap.get? b=some o->h'.get? b=some o)(hn:H it=none)(hL:it≠X.env.locals)
  (h1:it∈X.ex∨X.s₀.heap.objs.size<=it) (h2:∀ x c,X.env.cells.lookup x=some c->c≠it) (h3:∀ p∈X.pn ++ pins,p.1≠it):Inv X pins σ H { s with heap:=h',toks:=t' }:=by
 have nit:∀ b u,H b=some u->b≠it:=λb u e z=>by rw[z,hn] at e; cases e
 refine I.step (g':=s.gens) (d':=s.drawn) (ch:=[it]) (λb hb=>?_) (λb o _ _ hc e _=>k b o (λz=>hc (by simp[z])) e) (λb o _ _ hc e _=>⟨o.slots,k b o (λz=>hc (by simp[z])) e⟩) (λ_ _ _ _ n=>n)
  (λb o hc e=>⟨o,k b o (λz=>hc (by simp[z])) e⟩) (λ_ _ e=>e) (λ_ _ _ e=>e) (λb ps e=>⟨#[],by rw[e]; simp⟩) (λm hm=>?_) (λb u e=>?_) I.bare
 ·have e:b=it:=by simpa using hb
  subst e
  exact⟨h1,hL,h2,h3⟩
 ·obtain⟨o,es,ep,ho,r⟩:=hm
  exact⟨o,es,ep,k _ o (fB hL) ho,r⟩
 ·refine(I.hok b u e).stay (λc v hc q=>k c v ?_ q) (λ_ q=>q) λ_ _ q=>q
  rcases hc with z | z
  ·rw[z]; exact nit b u e
  ·exact nit c _ z
theorem Inv.tok (I:Inv X pins σ H s)(t:Nat):Inv X pins σ H { s with toks:=t }:=I.un (h':=s.heap) (t':=t) Un.refl I.hok
theorem Inv.kept {t':Nat}(I:Inv X pins σ H s)(k:∀ b u,s.heap.get? b=some u->h'.get? b=some u):Inv X pins σ H { s with heap:=h',toks:=t' }:=I.un (Un.kept k) (I.hok.kept k)
theorem Inv.laid {a:Addr}{o:HO}{t':Nat}(I:Inv X pins σ H s)(k:∀ b u,s.heap.get? b=some u->h'.get? b=some u)(hp:s.heap.objs.size<=a)(new:dL X.prog X.w (upd H a o) h' a o) :
  Inv X pins σ (upd H a o) { s with heap:=h',toks:=t' }:=I.un (Un.laid k hp (I.hok.fresh hp)) (I.hok.laid k hp new)
theorem Inv.write {x e:Addr}{o:HO}{t':Nat}(I:Inv X pins σ H s)(mu:pP (H x))(he:e=x∨H e=some (.own x))(k:∀ b u,b≠e->s.heap.get? b=some u->h'.get? b=some u)(heo:∃ u,h'.get? e=some u)
  (new:dL X.prog X.w (upd H x o) h' x o):Inv X pins σ (upd H x o) { s with heap:=h',toks:=t' }:=I.un (Un.write mu he k heo) (I.hok.write mu he k heo new)
theorem Inv.pins_of {pins':List (Addr×Obj)}(I:Inv X pins σ H s)(h:∀ p∈pins',s.heap.get? p.1=some p.2/\H p.1=none/\p.1≠X.env.locals/\p.1∉X.fs/\∀ v,p.2.data≠.cell v):Inv X pins' σ H s :=
 ⟨I.ok,I.os,I.bare,I.base,I.loc,I.cell,I.free,I.freeC,λp hp=>(gQ.mp hp).elim (λz=>I.pin p (pR _ z)) (h p),I.hok,I.len⟩
theorem Bq {N:List Str}(hN:N.Nodup){i j:Nat}{x:Str}(a:N[i]? = some x)(b:N[j]? = some x):i=j:=by
 obtain⟨h1,e1⟩:=cE.mp a
 obtain⟨h2,e2⟩:=cE.mp b
 exact(List.getElem_inj hN).mp (e1.trans e2.symm)
theorem tm {M:Model}{A:Around}{E:Value->Shared->Prop}{i:Nat}{x:Str}{v:V}{u:Value}{Q:Unit->Shared->Prop}(I:Inv X pins σ H s)(hN:X.N.Nodup)(hi:X.N[i]? = some x)(hx:wU X.env.scope x)(r:RelV v u)
  (h:∀ s',Inv X pins (σ.set i (some v)) H s'->(∃ a,Heap.SameBut a s.heap s'.heap/\(a=X.env.locals∨X.env.cells.lookup x=some a))->Q () s') (hf:X.fn x=true∨X.env.scope.names.lookup x=some .local:=by first | exact .inl rfl | exact .inr rfl | assumption):wpAny M A (storeName X.env x u) Q E s:=by
 obtain⟨m,hn,hl⟩:=id I.loc
 have hcls:(X.env.scope.kind == .class || (X.env.scope.kind == .module && X.env.locals != X.env.globals))=false:=by rw[I.ok.kind]; rfl
 have hiσ:i < σ.length:=by rw[I.len]; exact(cE.mp hi).1
 have cne:=I.cne
 have tracked:∀{a:Addr} {h':Heap},(∃ o,s.heap.get? a=some o/\H a=none)->Heap.SameBut a s.heap h'->cj X.prog X.w H h':=λ{a h'} ha hs b ob e=>by
  obtain⟨_,_,hfree⟩:=ha
  refine(I.hok b ob e).stay (λc w' hc q=>(hs.2 c ?_).trans q) (λ_ q=>q) λ_ _ q=>q
  rintro rfl
  rcases hc with rfl | hc
  ·rw[hfree] at e; cases e
  ·rw[hfree] at hc; cases hc
 rcases hx with hk | hk
 ·refine wpAny_storeName_local hk hn (λh' hn' hs=>?_) hcls
  obtain⟨oL,_,_,hoL,_⟩:=id hn
  refine h _ ⟨I.ok,I.os,I.bare,⟨λb o e n hb hx=>?_,λb o e n hb hx=>?_,I.base.free,λb o e hx=>?_,I.base.tups,I.base.frzs,I.base.tbls⟩,⟨_,hn',λj y v' e1 e2 e3=>?_⟩,λy c e=>?_,I.free,I.freeC,λp hp=>?_,tracked ⟨oL,hoL,I.free⟩ hs,by simpa using I.len⟩ ⟨_,hs,.inl rfl⟩
  ·exact(hs.2 b (cQ (gO (bU e) I.ok.above))).trans (I.base.keep b o e n hb hx)
  ·obtain⟨sl,e1⟩:=I.base.slot b o e n hb hx
   exact⟨sl,(hs.2 b (cQ (gO (bU e) I.ok.above))).trans e1⟩
  ·obtain⟨o',e1⟩:=I.base.there b o e hx
   exact⟨o',(hs.2 b (cQ (gO (bU e) I.ok.above))).trans e1⟩
  ·by_cases hj:j=i
   ·subst hj
    rw[hi] at e1; cases e1
    rw[List.getElem?_set_self hiσ] at e2
    cases e2
    exact⟨u,r,.inl ⟨hk,by simp⟩⟩
   ·rw[List.getElem?_set_ne (fB hj)] at e2
    obtain⟨u',r',q⟩:=hl j y v' e1 e2 e3
    refine⟨u',r',?_⟩
    rcases q with⟨k,e⟩ | ⟨k,c,e,z⟩
    ·refine .inl ⟨k,?_⟩
     have:y≠x:=λe=>hj (Bq hN e1 (e ▸ hi))
     simp[this,e]
    ·exact .inr ⟨k,c,e,z.sameBut hs (cne y c e)⟩
  ·obtain⟨w',z⟩:=I.cell y c e
   exact⟨w',z.sameBut hs (cne y c e)⟩
  ·obtain⟨e,n,ne,nf,d⟩:=I.pin p hp
   exact⟨(hs.2 p.1 ne).trans e,n,ne,nf,d⟩
 ·have hfn:X.fn x=true:=by
   rcases hf with z | z
   ·exact z
   ·rw[z] at hk; cases hk
  obtain⟨c,hc⟩:=I.ok.has x (.inl hk)
  obtain⟨w',z⟩:=I.cell x c hc
  refine wpAny_storeName_cell I.ok.kind hk hc z (λh' hc' hs=>?_)
  obtain⟨oc,hoc,hocd⟩:=id z
  refine h { s with heap:=h' } ⟨I.ok,I.os,I.bare,⟨λb o e n hb hx=>?_,λb o e n hb hx=>?_,I.base.free,λb o e hx=>?_,I.base.tups,I.base.frzs,I.base.tbls⟩,⟨m,hn.sameBut hs (fB (cne x c hc)),λj y v' e1 e2 e3=>?_⟩,λy c' e=>?_,I.free,I.freeC,λp hp=>?_,tracked ⟨oc,hoc,I.freeC x c hc⟩ hs,by simpa using I.len⟩ ⟨c,hs,.inr hc⟩
  ·exact(hs.2 b (cQ (gO (bU e) (I.ok.cab x c hfn hc)))).trans (I.base.keep b o e n hb hx)
  ·obtain⟨sl,e1⟩:=I.base.slot b o e n hb hx
   exact⟨sl,(hs.2 b (cQ (gO (bU e) (I.ok.cab x c hfn hc)))).trans e1⟩
  ·obtain⟨o',e1⟩:=I.base.there b o e hx
   exact⟨o',(hs.2 b (cQ (gO (bU e) (I.ok.cab x c hfn hc)))).trans e1⟩
  ·by_cases hj:j=i
   ·subst hj
    rw[hi] at e1; cases e1
    rw[List.getElem?_set_self hiσ] at e2
    cases e2
    exact⟨u,r,.inr ⟨.inl hk,c,hc,hc'⟩⟩
   ·rw[List.getElem?_set_ne (fB hj)] at e2
    obtain⟨u',r',q⟩:=hl j y v' e1 e2 e3
    refine⟨u',r',?_⟩
    rcases q with q | ⟨k,c',e,z'⟩
    ·exact .inl q
    ·refine .inr ⟨k,c',e,z'.sameBut hs ?_⟩
     rintro rfl
     exact hj (Bq hN e1 (I.ok.inj _ _ _ e hc ▸ hi))
  ·by_cases hcc:c'=c
   ·subst hcc; exact⟨_,hc'⟩
   ·obtain⟨w2,z2⟩:=I.cell y c' e
    exact⟨w2,z2.sameBut hs hcc⟩
  ·obtain⟨e,n,ne,nf,d⟩:=I.pin p hp
   refine⟨(hs.2 p.1 ?_).trans e,n,ne,nf,d⟩
   intro q
   rw[q,hoc] at e
   have q':oc=p.2:=kD e
   exact d w' (by rw[<- q']; exact hocd)
theorem zw {M:Model}{A:Around}{E:Value->Shared->Prop}{i:Nat}{x:Str}{v:V}{u:Value}{Q:Unit->Shared->Prop}(I:Inv X pins σ H s)(hN:X.N.Nodup)(hi:X.N[i]? = some x)(hx:wU X.env.scope x)(r:RelV v u)
  (h:∀ s',Inv X pins (σ.set i (some v)) H s'->Q () s') (hf:X.fn x=true∨X.env.scope.names.lookup x=some .local:=by first | exact .inl rfl | exact .inr rfl | assumption):wpAny M A (storeName X.env x u) Q E s :=
 tm I hN hi hx r (λs' I' _=>h s' I') hf
theorem Inv.call' {s':Shared}{ch:List Addr}(I:Inv X pins σ H s)(ho:s'.os=s.os)(u:Un (iE X.stack) ch H H' s.heap s'.heap)(hok:cj X.prog X.w H' s'.heap)(hg:AllBare s'.gens)
  (hch:∀ b∈ch,(b∈X.ex∨X.s₀.heap.objs.size<=b)/\b≠X.env.locals/\(∀ x c,X.env.cells.lookup x=some c->c≠b)/\∀ p∈X.pn ++ pins,p.1≠b):Inv X pins σ H' s':=by
 obtain⟨h',g',d',t',o'⟩:=s'
 have e:o'=s.os:=ho
 subst e
 exact I.call (g':=g') (t':=t') (d':=d') u hok hg hch
end
inductive iL {A B:Type} (P:A->B->Prop):Prop
 | mk (a:A) (b:B) (p:P a b)
inductive ig {A B C:Type} (P:A->B->C->Prop):Prop
 | mk (a:A) (b:B) (c:C) (p:P a b c)
inductive kF {A B C D:Type} (P:A->B->C->D->Prop):Prop
 | mk (a:A) (b:B) (c:C) (d:D) (p:P a b c d)
inductive pZ {A B C D E:Type} (P:A->B->C->D->E->Prop):Prop
 | mk (a:A) (b:B) (c:C) (d:D) (e:E) (p:P a b c d e)
inductive Ex6 {A B C D E F:Type} (P:A->B->C->D->E->F->Prop):Prop
 | mk (a:A) (b:B) (c:C) (d:D) (e:E) (f:F) (p:P a b c d e f)
inductive o6 {A B C D E F G:Type} (P:A->B->C->D->E->F->G->Prop):Prop
 | mk (a:A) (b:B) (c:C) (d:D) (e:E) (f:F) (g:G) (p:P a b c d e f g)
inductive j7 {A B C D E F G H:Type} (P:A->B->C->D->E->F->G->H->Prop):Prop
 | mk (a:A) (b:B) (c:C) (d:D) (e:E) (f:F) (g:G) (h:H) (p:P a b c d e f g h)
inductive gY {A B C D E F G H I:Type} (P:A->B->C->D->E->F->G->H->I->Prop):Prop
 | mk (a:A) (b:B) (c:C) (d:D) (e:E) (f:F) (g:G) (h:H) (i:I) (p:P a b c d e f g h i)
inductive F7 {A B C D E F G H I J:Type} (P:A->B->C->D->E->F->G->H->I->J->Prop):Prop
 | mk (a:A) (b:B) (c:C) (d:D) (e:E) (f:F) (g:G) (h:H) (i:I) (j:J) (p:P a b c d e f g h i j)
inductive zB {A B C D E F G H I J K:Type} (P:A->B->C->D->E->F->G->H->I->J->K->Prop):Prop
 | mk (a:A) (b:B) (c:C) (d:D) (e:E) (f:F) (g:G) (h:H) (i:I) (j:J) (k:K) (p:P a b c d e f g h i j k)
inductive wX {A B C D E F G H I J K L:Type} (P:A->B->C->D->E->F->G->H->I->J->K->L->Prop):Prop
 | mk (a:A) (b:B) (c:C) (d:D) (e:E) (f:F) (g:G) (h:H) (i:I) (j:J) (k:K) (l:L) (p:P a b c d e f g h i j k l)
abbrev XK:=Value->Option Addr->Hp->Prop
abbrev St:=List (Option V)
abbrev VK:=V->Hp->Prop
abbrev TE:=St->Hp->VK->Prop
abbrev TT:=St->Hp->(Bool->Hp->Prop)->Prop
abbrev TA:=St->Hp->(List V->Hp->Prop)->Prop
structure jW where
 nx:St->Hp->Prop
 rt:VK
 bk:St->Hp->Prop:=λ_ _=>False
 ct:St->Hp->Prop:=λ_ _=>False
abbrev TS:=jW->St->Hp->Prop
def EP (X:Cx)(pins:List (Addr×Obj))(σ:St)(Q:VK)(u:Value)(s':Shared):Prop:=∃ v H',Inv X pins σ H' s'/\RelV v u/\Q v H'
def TP (X:Cx)(pins:List (Addr×Obj))(σ:St)(Q:Bool->Hp->Prop)(b:Bool)(s':Shared):Prop:=∃ H',Inv X pins σ H' s'/\Q b H'
def AP (X:Cx)(pins:List (Addr×Obj))(σ:St)(Q:List V->Hp->Prop)(us:List Value)(s':Shared):Prop:=∃ vs H',Inv X pins σ H' s'/\ai vs us/\Q vs H'
def SP (X:Cx)(pins:List (Addr×Obj))(D:jW)(f:Flow)(s':Shared):Prop :=
 match f with
 | .next=>∃ σ' H',Inv X pins σ' H' s'/\D.nx σ' H'
 | .brk=>∃ σ' H',Inv X pins σ' H' s'/\D.bk σ' H'
 | .cont=>∃ σ' H',Inv X pins σ' H' s'/\D.ct σ' H'
 | .ret u=>∃ v σ' H',Inv X pins σ' H' s'/\RelV v u/\D.rt v H'
def PE (X:Cx)(e:Expr)(t:TE):Prop :=
 ∀(pins:List (Addr×Obj)) (s:Shared) (σ:St) (H:Hp) (Q:VK),Inv X pins σ H s->t σ H Q->wpAny (model X.prog X.w) X.A (eval e X.env) (EP X pins σ Q) X.xe s
def PT (X:Cx)(e:Expr)(t:TT):Prop :=
 ∀(pins:List (Addr×Obj)) (s:Shared) (σ:St) (H:Hp) (Q:Bool->Hp->Prop),Inv X pins σ H s->t σ H Q->wpAny (model X.prog X.w) X.A (isTrue e X.env (eval e X.env)) (TP X pins σ Q) X.xe s
def PW (X:Cx)(e:Expr)(t:TT):Prop :=
 ∀(whole:Sem Value) (pins:List (Addr×Obj)) (s:Shared) (σ:St) (H:Hp) (Q:Bool->Hp->Prop),Inv X pins σ H s->t σ H Q->wpAny (model X.prog X.w) X.A (isTrue e X.env whole) (TP X pins σ Q) X.xe s
theorem dw {X:Cx}{e:Expr}{t:TT}(h:PW X e t):PT X e t:=h _
def PA (X:Cx)(es:List Expr)(t:TA):Prop :=
 ∀(pos:Pos) (pins:List (Addr×Obj)) (s:Shared) (σ:St) (H:Hp) (Q:List V->Hp->Prop),Inv X pins σ H s->t σ H Q->wpAny (model X.prog X.w) X.A (spliced (backTo pos (starEach es X.env))) (AP X pins σ Q) X.xe s
def PS (X:Cx)(st:Stmt)(t:TS):Prop :=
 ∀(pins:List (Addr×Obj)) (s:Shared) (σ:St) (H:Hp) (D:jW),Inv X pins σ H s->t D σ H->wpAny (model X.prog X.w) X.A (exec st X.env) (SP X pins D) X.xe s
def iZ (X:Cx)(st:List Stmt)(t:TS):Prop :=
 ∀(pins:List (Addr×Obj)) (s:Shared) (σ:St) (H:Hp) (D:jW),Inv X pins σ H s->t D σ H->wpAny (model X.prog X.w) X.A (execs st X.env) (SP X pins D) X.xe s
theorem aZ {α:Type}{t:Sem α}{Q Q':α->Shared->Prop}{M:Model}{A:Around}{E:Value->Shared->Prop}{s:Shared}(h:wpAny M A t Q E s)(hQ:∀ a s,Q a s->Q' a s):wpAny M A t Q' E s:=fY h hQ λ_ _ x=>x
section
variable {X:Cx}
theorem bin {a b:Expr}{ta tb:TE}(ha:PE X a ta)(hb:PE X b tb){pins:List (Addr×Obj)}{s:Shared}{σ:St}{H:Hp}{R:V->V->Hp->Prop}(I:Inv X pins σ H s)(h:ta σ H λx H1=>tb σ H1 λy H2=>R x y H2)
  {α:Type} {Q:α->Shared->Prop} {f:Value->Value->Sem α}
  (hf:∀ v u s2 x y H2,Inv X pins σ H2 s2->RelV x v->RelV y u->R x y H2->wpAny (model X.prog X.w) X.A (f v u) Q X.xe s2) :
  wpAny (model X.prog X.w) X.A (eval a X.env) (λv s₁=>wpAny (model X.prog X.w) X.A (eval b X.env) (λu s₂=>wpAny (model X.prog X.w) X.A (f v u) Q X.xe s₂) X.xe s₁) X.xe s:=by
 refine aZ (ha pins s σ H _ I h) λv s1 ⟨x,H1,I1,r1,q1⟩=>?_
 refine aZ (hb pins s1 σ H1 _ I1 q1) λu s2 ⟨y,H2,I2,r2,q2⟩=>?_
 exact hf v u s2 x y H2 I2 r1 r2 q2
inductive fJ (i:Nat) (σ:St) (H:Hp) (Q:VK):Prop
 | mk (v:V) (e:σ[i]? = some (some v)) (q:Q v H)
def tC (v:V):TE:=λ_ H Q=>Q v H
theorem JJ {i:Nat}{x:Str}{pos:Pos}(hN:X.N[i]? = some x) (hv:yd X.env.scope x) (hd:(x == ("__debug__" : Str))=false:=by decide) (hcd:(x == ("__classdict__" : Str))=false:=by decide):PE X (.Name x pos) (fJ i):=by
 intro pins s σ H Q I h
 obtain⟨v,e,h⟩:=h
 obtain⟨m,hn,hl⟩:=I.loc
 obtain⟨u,r,l⟩:=hl i x v hN e hv
 have fin:EP X pins σ Q u s:=⟨v,H,I,r,h⟩
 rcases l with⟨hk,hm⟩ | ⟨hk,c,hc,hcell⟩
 ·exact wpAny_Name (wpAny_loadName_local I.ok.kind hk hn hm fin) hd
 ·rcases hk with hk | hk
  ·exact wpAny_Name (wpAny_loadName_cell I.ok.kind hk hc hcell fin) hd
  ·exact wpAny_Name (wpAny_loadName_free I.ok.kind hk hc hcell fin hcd) hd
theorem aM {i j pos}:PE X (.Constant (.int i) j pos) (tC (.int i)):=λ_ _ _ H _ I h=>wpAny_Constant_int ⟨.int i,H,I.tok _,⟨_,rfl⟩,h⟩
theorem hJ {b j pos}:PE X (.Constant (.bool b) j pos) (tC (.bl b)):=λ_ _ _ H _ I h=>Constant_bool ⟨.bl b,H,I,rfl,h⟩
theorem xR {j pos}:PE X (.Constant .none j pos) (tC .non):=λ_ _ _ H _ I h=>Constant_none ⟨.non,H,I,rfl,h⟩
theorem av {x j pos}:PE X (.Constant (.str x) j pos) (tC (.str x)):=λ_ _ _ H _ I h=>Calls.Constant_str ⟨.str x,H,I.tok _,⟨_,rfl⟩,h⟩
def Gl (X:Cx)(x:Str):Prop:=X.env.kindOf x=some .globalImplicit
theorem xx {E:Value->Shared->Prop}{pins:List (Addr×Obj)}{s:Shared}{σ:St}{H:Hp}{x:Str}{u:Value}{pos:Pos}{Q:Value->Shared->Prop}(I:Inv X pins σ H s)(hg:Gl X x)(hm:X.mg x=some u)(h:Q u s)
  (hd:(x == ("__debug__" : Str))=false:=by decide):wpAny (model X.prog X.w) X.A (eval (.Name x pos) X.env) Q E s :=
 Calls.Name_function_global I.ok.kind hg (Calls.loadGlobal_global (by rw[I.ok.glob]; exact I.mod.glob.keeps I.bk) hm h) hd
theorem jx {E:Value->Shared->Prop}{pins:List (Addr×Obj)}{s:Shared}{σ:St}{H:Hp}{x:Str}{u:Value}{pos:Pos}{Q:Value->Shared->Prop}(I:Inv X pins σ H s)(hg:Gl X x)(hm:X.mg x=none)(hv:bootBuiltins x=some u)(h:Q u s)
  (hn:x ≠ "__name__" := by decide) (hd:(x == ("__debug__" : Str))=false:=by decide):wpAny (model X.prog X.w) X.A (eval (.Name x pos) X.env) Q E s:=by
 obtain⟨mb,h1,h2⟩:=I.mod.blt
 exact Calls.Name_function_global I.ok.kind hg (Calls.loadGlobal_builtin (by rw[I.ok.glob]; exact I.mod.glob.keeps I.bk) hm (by rw[I.ok.blt]; exact h1.keeps I.bk) ((h2 x hn).trans hv) h) hd
theorem kN {x:Str}{v:V}{u:Value}{pos:Pos}(hg:Gl X x) (hm:X.mg x=some u) (r:RelV v u) (hd:(x == ("__debug__" : Str))=false:=by decide):PE X (.Name x pos) (tC v) :=
 λ_ _ _ H _ I h=>xx I hg hm ⟨v,H,I,r,h⟩ hd
theorem jI {x:Str}{v:V}{u:Value}{pos:Pos}(hg:Gl X x) (hm:X.mg x=none) (hv:bootBuiltins x=some u) (r:RelV v u) (hn:x ≠ "__name__" := by decide) (hd:(x == ("__debug__" : Str))=false:=by decide):PE X (.Name x pos) (tC v) :=
 λ_ _ _ H _ I h=>jx I hg hm hv ⟨v,H,I,r,h⟩ hn hd
variable {a b:Expr}{ta tb:TE}{pos:Pos}
def PC (X:Cx)(op:CmpOp)(a b:Expr)(t:TE):Prop :=
 ∀(pins:List (Addr×Obj)) (s:Shared) (σ:St) (H:Hp) (Q:VK),Inv X pins σ H s->t σ H Q ->
  wpAny (model X.prog X.w) X.A (eval a X.env) (λv s₁=>wpAny (model X.prog X.w) X.A (eval b X.env) (λu s₂=>wpAny (model X.prog X.w) X.A (compareOp op v u) (EP X pins σ Q) X.xe s₂) X.xe s₁) X.xe s
theorem KQ (b:Expr){op:CmpOp}(h:op≠.In)(h2:op≠.NotIn):behindInMarks op b=false:=by
 have e1:(op == CmpOp.In)=false:=by cases op <;> first | rfl | exact absurd rfl h
 have e2:(op == CmpOp.NotIn)=false:=by cases op <;> first | rfl | exact absurd rfl h2
 cases b <;> simp[behindInMarks,e1,e2]
def Fp (ta:TE):TE:=λσ H Q=>ta σ H λx H1=>Q (.bl (!decide (x=.non))) H1
theorem RelV.none_iff {x:V}{v:Value}(r:RelV x v):(v == Value.none)=decide (x=.non):=by
 cases x with
 | non=>cases r; rfl
 | bl _=>cases r; rfl
 | int _=>obtain⟨t,rfl⟩:=r; rfl
 | str _=>obtain⟨t,rfl⟩:=r; rfl
 | byt _=>obtain⟨t,rfl⟩:=r; rfl
 | flt _=>obtain⟨t,rfl⟩:=r; rfl
 | ref _=>cases r; rfl
 | ty _=>cases r; rfl
theorem JP {j pos'}(ha:PE X a ta):PC X .IsNot a (.Constant .none j pos') (Fp ta):=by
 intro pins s σ H Q I h
 refine aZ (ha pins s σ H _ I h) λv s1 ⟨x,H1,I1,r1,q1⟩=>?_
 exact Constant_none (isnot_none_gen ⟨.bl _,H1,I1,by rw[r1.none_iff]; rfl,q1⟩)
def tB (t:TE):TT:=λσ H Q=>t σ H λx H1=>∃ c,x=.bl c/\Q c H1
theorem vF {op:CmpOp}{t:TE}(h:PC X op a b t)(h1:behindInMarks op b=false:=by first | exact KQ _ (by decide) (by decide) | rfl):PT X (.Compare a [op] [b] pos) (tB t):=by
 intro pins s σ H Q I hw
 refine wpAny_isTrue_Compare1 (aZ (h pins s σ H _ I hw) λv s1 h1=>aZ h1 λu s2 h2=>aZ h2 λc s3 ⟨x,H1,I1,r1,q1⟩=>?_) h1
 obtain⟨d,rfl,q⟩:=q1
 cases r1
 exact o9 ⟨H1,I1,q⟩
theorem cm {e:Expr}{t:TE}(h:PE X e t)(he:∀ whole,isTrue e X.env whole=(do let v <- whole; standAt e.pos; holding [v] (truthy v)):=by intro _; rfl):PT X e (tB t):=by
 intro pins s σ H Q I hw
 refine isTrue_plain (aZ (h pins s σ H _ I hw) λv s1 ⟨x,H1,I1,r1,q1⟩=>?_) (he _)
 obtain⟨d,rfl,q⟩:=q1
 cases r1
 exact o9 ⟨H1,I1,q⟩
variable {tA tB':TT}{cC:List Expr}
def GH (t u:TT):TT:=λσ H Q=>t σ H λc H1=>if c=true then u σ H1 Q else Q false H1
def tOr (t u:TT):TT:=λσ H Q=>t σ H λc H1=>if c=true then Q true H1 else u σ H1 Q
def Fq (t:TT):TT:=λσ H Q=>t σ H λc H1=>Q (!c) H1
theorem iP (ha:PT X a tA):PW X (.BoolOp .And [a] pos) tA:=by
 intro wh pins s σ H Q I h
 refine isTrue_and (aZ (ha pins s σ H Q I h) λc s1 e=>?_)
 cases c with
 | true=>exact isTrue_and_nil e
 | false=>exact e
theorem jk (ha:PT X a tA):PW X (.BoolOp .Or [a] pos) tA:=by
 intro wh pins s σ H Q I h
 refine isTrue_or (aZ (ha pins s σ H Q I h) λc s1 e=>?_)
 cases c with
 | false=>exact isTrue_or_nil e
 | true=>exact e
theorem i9 (ha:PT X a tA)(hb:PW X (.BoolOp .And (b :: cC) pos) tB'):PW X (.BoolOp .And (a :: b :: cC) pos) (GH tA tB'):=by
 intro wh pins s σ H Q I h
 refine isTrue_and (aZ (ha pins s σ H _ I h) λc s1 ⟨H1,I1,q1⟩=>?_)
 cases c with
 | true=>exact hb wh pins s1 σ H1 Q I1 q1
 | false=>exact⟨H1,I1,q1⟩
theorem jH (ha:PT X a tA)(hb:PW X (.BoolOp .Or (b :: cC) pos) tB'):PW X (.BoolOp .Or (a :: b :: cC) pos) (tOr tA tB'):=by
 intro wh pins s σ H Q I h
 refine isTrue_or (aZ (ha pins s σ H _ I h) λc s1 ⟨H1,I1,q1⟩=>?_)
 cases c with
 | true=>exact⟨H1,I1,q1⟩
 | false=>exact hb wh pins s1 σ H1 Q I1 q1
theorem eD (ha:PT X a tA):PT X (.UnaryOp .Not a pos) (Fq tA):=by
 intro pins s σ H Q I h
 exact isTrue_not (ha pins s σ H (λc H1=>Q (!c) H1) I h)
def GG (ta tb:TE):TE:=λσ H Q=>ta σ H λx H1=>∃ c,x=.bl c/\if c=true then tb σ H1 Q else Q (.bl false) H1
def Fo (ta tb:TE):TE:=λσ H Q=>ta σ H λx H1=>∃ c,x=.bl c/\if c=true then Q (.bl true) H1 else tb σ H1 Q
theorem lZ {op}{t:TE}(h:PE X a t):PE X (.BoolOp op [a] pos) t:=λpins s σ H Q I hw=>BoolOp_one (h pins s σ H Q I hw)
theorem jr (ha:PE X a ta)(hb:PE X (.BoolOp .And (b :: cC) pos) tb):PE X (.BoolOp .And (a :: b :: cC) pos) (GG ta tb):=by
 intro pins s σ H Q I h
 refine BoolOp_and (aZ (ha pins s σ H _ I h) λv s1 ⟨x,H1,I1,r1,q1⟩=>?_)
 obtain⟨c,rfl,q1⟩:=q1
 cases r1
 refine o9 ?_
 cases c with
 | true=>exact hb pins s1 σ H1 Q I1 q1
 | false=>exact⟨.bl false,H1,I1,rfl,q1⟩
theorem JL (ha:PE X a ta)(hb:PE X (.BoolOp .Or (b :: cC) pos) tb):PE X (.BoolOp .Or (a :: b :: cC) pos) (Fo ta tb):=by
 intro pins s σ H Q I h
 refine BoolOp_or (aZ (ha pins s σ H _ I h) λv s1 ⟨x,H1,I1,r1,q1⟩=>?_)
 obtain⟨c,rfl,q1⟩:=q1
 cases r1
 refine o9 ?_
 cases c with
 | false=>exact hb pins s1 σ H1 Q I1 q1
 | true=>exact⟨.bl true,H1,I1,rfl,q1⟩
def tIf (t:TT)(ta tb:TE):TE:=λσ H Q=>t σ H λc H1=>if c=true then ta σ H1 Q else tb σ H1 Q
theorem iB {c:Expr}(hc:PT X c tA)(ha:PE X a ta)(hb:PE X b tb):PE X (.IfExp c a b pos) (tIf tA ta tb):=by
 intro pins s σ H Q I h
 refine wpAny_IfExp (aZ (hc pins s σ H _ I h) λd s1 ⟨H1,I1,q1⟩=>?_)
 cases d with
 | true=>exact ha pins s1 σ H1 Q I1 q1
 | false=>exact hb pins s1 σ H1 Q I1 q1
end
def aD (K:PySem.W.Frag)(H:Hp)(a:Addr)(xs:List V):Prop :=
 Rd H a (.lst xs) ∨
  ∃(o:Obj) (its:Array Value) (n:Nat),K.lookup a=some o/\o.cls=.type "list" /\ o.dict=none/\o.data=.seq its n/\its.size<=sizeLine/\ai xs its.toList
def bT (K:PySem.W.Frag)(H:Hp)(a:Addr)(xs:List V):Prop :=
 Rd H a (.tup xs) ∨
  ∃(o:Obj) (its:Array Value) (n:Nat),K.lookup a=some o/\o.cls=.type "tuple" /\ o.data=.seq its n/\its.size<=sizeLine/\ai xs its.toList
def Nk:Value->Option V
 | .none=>some .non
 | .bool b=>some (.bl b)
 | .int i _=>some (.int i)
 | .str x _=>some (.str x)
 | .bytes b _=>some (.byt b)
 | .float b _=>some (.flt b)
 | .ref a=>some (.ref a)
 | .type n=>some (.ty n)
 | _=>none
theorem RelV.abs {x:V}{u:Value}(r:RelV x u):Nk u=some x:=by
 cases x with
 | non=>cases r; rfl
 | bl _=>cases r; rfl
 | int _=>obtain⟨t,rfl⟩:=r; rfl
 | str _=>obtain⟨t,rfl⟩:=r; rfl
 | byt _=>obtain⟨t,rfl⟩:=r; rfl
 | flt _=>obtain⟨t,rfl⟩:=r; rfl
 | ref _=>cases r; rfl
 | ty _=>cases r; rfl
theorem RelV.inj {x y:V}{u:Value}(r:RelV x u)(q:RelV y u):x=y:=kD (r.abs.symm.trans q.abs)
theorem ai.inj:∀{xs ys:List V}{us:List Value},ai xs us->ai ys us->xs=ys
 | _,_,_,.nil,.nil=>rfl
 | _,_,_,.cons r t,.cons r' t'=>by rw[r.inj r',ai.inj t t']
section
variable {X:Cx}{pins:List (Addr×Obj)}{σ:St}{H:Hp}{s:Shared}{a:Addr}{xs ys:List V}
theorem aD.of {K:PySem.W.Frag}(h:H a=some (.lst xs)):aD K H a xs:=.inl (.inl h)
theorem bT.of {K:PySem.W.Frag}(h:H a=some (.tup xs)):bT K H a xs:=.inl (.inl h)
theorem Inv.list (I:Inv X pins σ H s)(h:aD X.K H a xs):∃ its:List Value,ai xs its/\PlainL s.heap a its.toArray/\xs.length<=sizeLine:=by
 rcases h with h | ⟨o,its,n,hk,hc,hd,hs,hz,r⟩
 ·obtain⟨z,its,n,r,e⟩:=h.ok I.hok
  exact⟨its,r,⟨_,n,e,rfl,rfl,rfl⟩,z⟩
 ·refine⟨its.toList,r,⟨o,n,I.kIn a o hk,hc,hd,by simpa using hs⟩,?_⟩
  have e:=r.length
  simp only[Array.length_toList] at e
  omega
theorem Inv.tuple (I:Inv X pins σ H s)(h:bT X.K H a xs):∃ its:List Value,ai xs its/\IsTup s.heap a its.toArray/\xs.length<=sizeLine:=by
 rcases h with h | ⟨o,its,n,hk,hc,hs,hz,r⟩
 ·obtain⟨z,its,r,p⟩:=h.ok I.hok
  exact⟨its,r,p,z⟩
 ·refine⟨its.toList,r,⟨o,I.kIn a o hk,hc,n,by simpa using hs⟩,?_⟩
  have e:=r.length
  simp only[Array.length_toList] at e
  omega
theorem Inv.list_inj (I:Inv X pins σ H s)(h:aD X.K H a xs)(h':aD X.K H a ys):xs=ys:=by
 obtain⟨its,r,⟨o,n,e,_,_,d⟩,_⟩:=I.list h
 obtain⟨its',r',⟨o',n',e',_,_,d'⟩,_⟩:=I.list h'
 rw[e] at e'; cases e'
 rw[d] at d'
 injection d' with d1 _
 have:its=its':=by simpa using iY Array.toList d1
 subst this
 exact r.inj r'
end
abbrev Cx.wish (X:Cx)(E:Value->Shared->Prop):Cx:={ X with xe:=E }
abbrev Cx.nox (X:Cx):Cx:=X.wish λ_ _=>False
theorem Cx.Ok.wish {X:Cx}(ok:X.Ok)(E:Value->Shared->Prop):(X.wish E).Ok :=
 ⟨ok.mod,ok.kind,ok.glob,ok.blt,ok.above,ok.inj,ok.has,ok.cab,ok.hd,ok.frames,ok.stk,ok.exf,ok.bs,ok.bsz,ok.noex,ok.exfs,ok.funs,ok.frf⟩
theorem Cx.Ok.unwish {X:Cx}{E:Value->Shared->Prop}(ok:(X.wish E).Ok):X.Ok :=
 ⟨ok.mod,ok.kind,ok.glob,ok.blt,ok.above,ok.inj,ok.has,ok.cab,ok.hd,ok.frames,ok.stk,ok.exf,ok.bs,ok.bsz,ok.noex,ok.exfs,ok.funs,ok.frf⟩
section
variable {X:Cx}{pins:List (Addr×Obj)}{σ:St}{H:Hp}{s:Shared}{E:Value->Shared->Prop}
theorem Inv.wish (I:Inv X pins σ H s)(E:Value->Shared->Prop):Inv (X.wish E) pins σ H s:=⟨I.ok.wish E,I.os,I.bare,I.base,I.loc,I.cell,I.free,I.freeC,I.pin,I.hok,I.len⟩
theorem Inv.unwish (I:Inv (X.wish E) pins σ H s):Inv X pins σ H s:=⟨I.ok.unwish,I.os,I.bare,I.base,I.loc,I.cell,I.free,I.freeC,I.pin,I.hok,I.len⟩
theorem SP.unwish {D:jW}{f:Flow}{s':Shared}(h:SP (X.wish E) pins D f s'):SP X pins D f s':=by
 cases f with
 | next=>obtain⟨σ',H',I,q⟩:=h; exact⟨σ',H',I.unwish,q⟩
 | brk=>obtain⟨σ',H',I,q⟩:=h; exact⟨σ',H',I.unwish,q⟩
 | cont=>obtain⟨σ',H',I,q⟩:=h; exact⟨σ',H',I.unwish,q⟩
 | ret u=>obtain⟨v,σ',H',I,r,q⟩:=h; exact⟨v,σ',H',I.unwish,r,q⟩
theorem iZ.nox {st:List Stmt}{t:TS}(h:iZ X.nox st t):iZ X st t:=λpins s σ H D I hw =>
 fY (h pins s σ H D (I.wish _) hw) (λ_ _ q=>q.unwish) λ_ _ z=>False.elim z
end
section
variable {X:Cx}{st:Stmt}{cC:List Stmt}{t u:TS}{e:Expr}{te:TE}{pos:Pos}
def Fs:TS:=λD σ H=>D.nx σ H
def zf (t u:TS):TS:=λD σ H=>t { D with nx:=u D } σ H
theorem bO:iZ X [] Fs:=λ_ _ σ H _ I h=>wpAny_execs_nil ⟨σ,H,I,h⟩
theorem aK (h1:PS X st t)(h2:iZ X cC u):iZ X (st :: cC) (zf t u):=by
 intro pins s σ H D I h
 refine wpAny_execs_cons (aZ (h1 pins s σ H { D with nx:=u D } I h) λf s1 q=>?_)
 cases f with
 | next =>
  obtain⟨σ',H',I',q⟩:=q
  exact h2 pins s1 σ' H' D I' q
 | ret v=>exact q
 | brk=>exact q
 | cont=>exact q
theorem aL (h1:PS X st t):iZ X [st] t:=by
 intro pins s σ H D I h
 refine wpAny_execs_cons (aZ (h1 pins s σ H D I h) λf s1 q=>?_)
 cases f with
 | next=>exact wpAny_execs_nil q
 | ret v=>exact q
 | brk=>exact q
 | cont=>exact q
theorem Inv.quiet {pins:List (Addr×Obj)}{σ:St}{H:Hp}{s:Shared}(I:Inv X pins σ H s):interactive X.env=false:=by simp[interactive,I.ok.kind]
def wo (te:TE):TS:=λD σ H=>te σ H λ_ H1=>D.nx σ H1
theorem bd (he:PE X e te)(hs:swapsWith e none pos.line X.env=pure false:=by rfl):PS X (.Expr e pos) (wo te):=by
 intro pins s σ H D I h
 exact wpAny_Expr_any (aZ (he pins s σ H _ I h) λv s1 ⟨x,H1,I1,r1,q1⟩=>⟨σ,H1,I1,q1⟩) I.quiet hs
def Fn (te:TE):TS:=λD σ H=>te σ H D.rt
theorem aX (he:PE X e te):PS X (.Return (some e) pos) (Fn te):=by
 intro pins s σ H D I h
 exact wpAny_Return_some (aZ (he pins s σ H _ I h) λv s1 ⟨x,H1,I1,r1,q1⟩=>⟨x,σ,H1,I1,r1,q1⟩)
def Fz (c:TT)(t u:TS):TS:=λD σ H=>c σ H λb H1=>if b=true then t D σ H1 else u D σ H1
theorem bJ {c:Expr}{a b:List Stmt}{tc:TT}(hc:PT X c tc)(ha:iZ X a t)(hb:iZ X b u):PS X (.If c a b pos) (Fz tc t u):=by
 intro pins s σ H D I h
 refine wpAny_If (aZ (hc pins s σ H _ I h) λd s1 ⟨H1,I1,q1⟩=>?_)
 cases d with
 | true=>exact ha pins s1 σ H1 D I1 q1
 | false=>exact hb pins s1 σ H1 D I1 q1
def Fu:TS:=λ_ _ _=>False
theorem hC:PS X st Fu:=λ_ _ _ _ _ _ h=>h.elim
end
abbrev TG:=V->St->Hp->(St->Hp->Prop)->Prop
abbrev nR:=List V->St->Hp->(St->Hp->Prop)->Prop
def PG (X:Cx)(target:Expr)(t:TG):Prop :=
 ∀(pins:List (Addr×Obj)) (s:Shared) (σ:St) (H:Hp) (v:V) (u:Value) (Q:St->Hp->Prop),Inv X pins σ H s->RelV v u->t v σ H Q ->
  wpAny (model X.prog X.w) X.A (assign target X.env u) (λ_ s'=>∃ σ' H',Inv X pins σ' H' s'/\Q σ' H') X.xe s
def wQ (X:Cx)(ts:List Expr)(t:nR):Prop :=
 ∀(pins:List (Addr×Obj)) (s:Shared) (σ:St) (H:Hp) (vs:List V) (us:List Value) (Q:St->Hp->Prop),Inv X pins σ H s->ai vs us->t vs σ H Q ->
  wpAny (model X.prog X.w) X.A (assignInOrder ((assignEach ts X.env).map (·.2)) us) (λ_ s'=>∃ σ' H',Inv X pins σ' H' s'/\Q σ' H') X.xe s
section
variable {X:Cx}{pos:Pos}
def cB (i:Nat):TG:=λv σ H Q=>Q (σ.set i (some v)) H
theorem aU {i:Nat}{x:Str}(hN:X.N.Nodup)(hi:X.N[i]? = some x)(hx:wU X.env.scope x)(hf:X.fn x=true∨X.env.scope.names.lookup x=some .local:=by first | exact .inl rfl | exact .inr rfl | assumption):PG X (.Name x pos) (cB i):=by
 intro pins s σ H v u Q I r h
 exact wpAny_assign_Name (zw I hN hi hx r (λs' I'=>⟨_,H,I',h⟩) hf)
def eX:nR:=λvs σ H Q=>vs=[]/\Q σ H
def cG (t:TG)(u:nR):nR:=λvs σ H Q=>∃ v r,vs=v :: r/\t v σ H λσ' H'=>u r σ' H' Q
theorem dE:wQ X [] eX:=by
 intro pins s σ H vs us Q I r h
 obtain⟨e,h⟩:=h
 subst e
 cases r
 exact assignInOrder_nil ⟨σ,H,I,h⟩
theorem bF {e:Expr}{es:List Expr}{t:TG}{u:nR}(h1:PG X e t)(h2:wQ X es u)
  (hs:(assignEach (e :: es) X.env).map (·.2)=assign e X.env :: (assignEach es X.env).map (·.2):=by rfl):wQ X (e :: es) (cG t u):=by
 intro pins s σ H vs us Q I r h
 obtain⟨v,vr,e1,h⟩:=h
 subst e1
 cases r with
 | cons r rr =>
  rw[hs]
  refine assignInOrder_cons (aZ (h1 pins s σ H _ _ _ I r h) λ_ s1 ⟨σ1,H1,I1,q1⟩=>?_)
  exact h2 pins s1 σ1 H1 _ _ Q I1 rr q1
def eW (K:PySem.W.Frag)(n:Nat)(t:nR):TG:=λv σ H Q=>∃ a xs,v=.ref a/\bT K H a xs/\xs.length=n/\t xs σ H Q
theorem dF {es:List Expr}{k:Nat}{t:nR}{n:Nat}(hc:X.calm=true)(h:wQ X es t)
  (hn:(assignEach es X.env).length=n:=by rfl) (hst:(assignEach es X.env).findIdx? (·.1)=none:=by rfl):PG X (.Tuple es k pos) (eW X.K n t):=by
 intro pins s σ H v u Q I r hw
 obtain⟨a,xs,e1,hq,hl,hw⟩:=hw
 subst e1
 cases r
 obtain⟨its,rv,ht,hz⟩:=I.tuple hq
 refine assign_Tuple_tuple (I.ok.hd hc) ht (by simp[hn,<- hl,rv.length]) hst λh' hx=>?_
 have I1:Inv X pins σ H { s with heap:=h' }:=I.kept (t':=s.toks) λb o e=>hx b o (cQ (bU e)) e
 exact h pins _ σ H xs _ Q I1 (by simpa using rv) hw
def GF (te:TE)(g:TG):TS:=λD σ H=>te σ H λx H1=>g x σ H1 D.nx
theorem aq {i:Nat}{x:Str}{e:Expr}{te:TE}{pos':Pos}(hN:X.N.Nodup)(hi:X.N[i]? = some x)(hx:wU X.env.scope x)(he:PE X e te)(hs:swapsWith e (some (.Name x pos')) pos.line X.env=pure false:=by rfl)(hf:X.fn x=true∨X.env.scope.names.lookup x=some .local:=by first | exact .inl rfl | exact .inr rfl | assumption) :
  PS X (.Assign [.Name x pos'] e pos) (GF te (cB i)):=by
 intro pins s σ H D I h
 refine wpAny_Assign_Name (aZ (he pins s σ H _ I h) λv s1 ⟨y,H1,I1,r1,q1⟩=>?_) hs
 exact zw I1 hN hi hx r1 (λs2 I2=>⟨_,H1,I2,q1⟩) hf
def Fg (c:TT)(tb:TS):TS:=λD σ H=>∃ W:Nat->St->Hp->Prop,(∃ m,W m σ H)/\∀ m σ H,W m σ H ->
 c σ H λb H1=>if b=true then ∃ N:St->Hp->Prop,(∀ σ' H',N σ' H'->∃ m',m' < m/\W m' σ' H')/\tb { D with nx:=N,ct:=N,bk:=D.nx } σ H1 else D.nx σ H1
theorem B5 {c:Expr}{body:List Stmt}{tc:TT}{tb:TS}(hp:PassesOwn (model X.prog X.w) X.A X.env X.xe)(hc:PT X c tc)(hb:iZ X body tb):PS X (.While c body [] pos) (Fg tc tb):=by
 intro pins s σ H D I h
 obtain⟨W,⟨m0,w0⟩,turn⟩:=h
 refine wpAny_While (codeAny_whileLoop (λn s'=>∃ σ' H',Inv X pins σ' H' s'/\W n σ' H') ?_ m0 ⟨σ,H,I,w0⟩)
 rintro n s1 ⟨σ1,H1,I1,w1⟩
 refine oA hp (aZ (hc pins s1 σ1 H1 _ I1 (turn n σ1 H1 w1)) λb s2 ⟨H2,I2,q2⟩=>?_)
 cases b with
 | true =>
  obtain⟨N,hN,q2⟩:=q2
  rw[aP rfl]
  refine oA hp (aZ (hb pins s2 σ1 H2 _ I2 q2) λf s3 q3=>?_)
  cases f with
  | next =>
   obtain⟨σ3,H3,I3,n3⟩:=q3
   obtain⟨m',hm,w3⟩:=hN σ3 H3 n3
   exact⟨m',hm,σ3,H3,I3,w3⟩
  | cont =>
   obtain⟨σ3,H3,I3,n3⟩:=q3
   obtain⟨m',hm,w3⟩:=hN σ3 H3 n3
   exact⟨m',hm,σ3,H3,I3,w3⟩
  | brk=>exact q3
  | ret v=>exact q3
 | false =>
  rw[aN dN]
  exact wpAny_execs_nil ⟨σ1,H2,I2,q2⟩
end
structure It where
 go:Nat->Hp->Prop
 yld:Nat->Hp->V->Hp->Prop
 stop:Nat->Hp->Prop
def dM (X:Cx)(pins:List (Addr×Obj))(H:Hp)(b:Addr):Prop :=
 H b=none/\b≠X.env.locals/\b∉X.fs/\(b∈X.ex∨X.s₀.heap.objs.size<=b)/\(∀ x c,X.env.cells.lookup x=some c->c≠b)/\∀ p∈X.pn ++ pins,p.1≠b
theorem Inv.fpOk {X:Cx}{pins:List (Addr×Obj)}{σ:St}{H H':Hp}{s:Shared}{b:Addr}(I:Inv X pins σ H s)(hb:s.heap.objs.size<=b)(hn:H' b=none):dM X pins H' b:=by
 refine⟨hn,Nat.ne_of_gt (gO I.lt hb),I.nofs hb,.inr (b8 I.sz hb),λx c e z=>?_,λp hp z=>?_⟩
 ·obtain⟨v,q⟩:=I.cell x c e
  exact absurd (gO q.lt (by rw[z]; exact hb)) (ia _)
 ·exact absurd (gO (bU (I.pin p hp).1) (by rw[z]; exact hb)) (ia _)
structure i5 (P:Program) (w:World) (K:PySem.W.Frag) (tg:Expr) (J:It) (fp:List Addr) (it:Addr) (tn:Nat->Heap->Prop):Prop where
 mem:it∈fp
 obj:∀ i h,tn i h->∀ b∈fp,∃ o,h.get? b=some o/\∀ v,o.data≠.cell v
 keep:∀ i h h',tn i h->(∀ b∈fp,∀ o,h.get? b=some o->h'.get? b=some o)->tn i h'
 item:∀(X:Cx),X.prog=P->X.w=w->X.K=K->X.calm=true->∀(i:Nat) (pins:List (Addr×Obj)) (s:Shared) (σ:St) (H:Hp) (E:Value->Shared->Prop),Inv X pins σ H s->(∀ b∈fp,dM X pins H b)->tn i s.heap->J.go i H ->
  wpAny (model P w) X.A (pyNext (.ref it)) (λr s1=>∃ u,r=some u /\
   wpAny (model P w) X.A (letOwnedTupleGo tg (.ref it) u) (λ_ s2=>∃ x H',Inv X pins σ H' s2/\RelV x u/\J.yld i H x H'/\tn (i + 1) s2.heap/\∀ b∈fp,H' b=none) E s1) E s
 done:∀(X:Cx),X.prog=P->X.w=w->X.K=K->X.calm=true->∀(i:Nat) (pins:List (Addr×Obj)) (s:Shared) (σ:St) (H:Hp) (E:Value->Shared->Prop),Inv X pins σ H s->(∀ b∈fp,dM X pins H b)->tn i s.heap->J.stop i H ->
  wpAny (model P w) X.A (pyNext (.ref it)) (λr s1=>r=none/\Inv X pins σ H s1) E s
 self:∀(A:Around) (i:Nat) (s:Shared) (Q:Value->Shared->Prop) (E:Value->Shared->Prop),tn i s.heap->Q (.ref it) s->wpAny (model P w) A (pyIter (.ref it)) Q E s
abbrev TI:=St->Hp->(It->Hp->Prop)->Prop
def yk (X:Cx)(pins:List (Addr×Obj))(σ:St)(tg:Expr)(R:It->Hp->Prop)(itv:Value)(s2:Shared):Prop :=
 ∃(it:Addr) (fp:List Addr) (tn:Nat->Heap->Prop) (J:It) (H':Hp),itv=.ref it/\Inv X pins σ H' s2/\i5 X.prog X.w X.K tg J fp it tn/\tn 0 s2.heap/\(∀ b∈fp,dM X pins H' b)/\R J H'
def PI (X:Cx)(tg iter:Expr)(wi:TI):Prop :=
 ∀(pins:List (Addr×Obj)) (s:Shared) (σ:St) (H:Hp) (R:It->Hp->Prop),Inv X pins σ H s->wi σ H R ->
  wpAny (model X.prog X.w) X.A (eval iter X.env) (λv s1=>wpAny (model X.prog X.w) X.A (pyIter v) (yk X pins σ tg R) X.xe s1) X.xe s
theorem vj {M:Model}{A:Around}{E:Value->Shared->Prop}{s:Shared}{tg:Expr}{it:Addr}{u:Value}{o:Obj}{n:String}{vs:Array Value}{Q:Unit->Shared->Prop}(ho:s.heap.get? it=some o)(hc:o.cls=.type n)(hd:o.data=.fields vs)
  (hn:["enumerate", "zip", "dict_itemiterator", "dict_reverseitemiterator", "odict_iterator", "itertools.zip_longest", "itertools.pairwise"].contains n=false) (hQ:Q () s):wpAny M A (letOwnedTupleGo tg (.ref it) u) Q E s:=by
 unfold letOwnedTupleGo
 cases tg <;> first
  | exact aa hQ
  | (cases u <;> first
    | exact aa hQ
    | (refine aE (wpAny_load ho ?_)
       rw[hc,hd]
       show wpAny M A (if (["enumerate", "zip", "dict_itemiterator", "dict_reverseitemiterator", "odict_iterator", "itertools.zip_longest", "itertools.pairwise"].contains n && vs[0]? == some (rawInt _))=true then _ else _) Q E s
       rw[aN (by intro h; rw[hn,wZ] at h; cases h)]
       exact aa hQ))
def mM (K:PySem.W.Frag)(a:Addr):It :=
 ⟨λi H=>∃ xs x,aD K H a xs/\xs[i]? = some x,λi H x H'=>H'=H/\∀ xs,aD K H a xs->xs[i]? = some x,λi H=>∃ xs,aD K H a xs/\xs.length<=i⟩
def mK (lo:Int)(n:Nat):It:=⟨λi _=>i < n,λi H x H'=>H'=H/\x=.int (lo + i),λi _=>n<=i⟩
theorem FW {P:Program}{w:World}{K:PySem.W.Frag}{tg:Expr}(a it:Addr):i5 P w K tg (mM K a) [it] it (λi h=>h.IsListIter it a i) where
 mem:=by simp
 obj:=λi h st b hb=>by
  have e:b=it:=by simpa using hb
  subst e
  obtain⟨o,e,c,d⟩:=st
  exact⟨o,e,λv z=>by rw[d] at z; cases z⟩
 keep:=λi h h' st k=>st.at λo e=>k it (by simp) o e
 item:=by
  intro X hP hw hK hc i pins s σ H E I hf st hg
  subst hP hw hK
  obtain⟨xs,x,hq,hx⟩:=hg
  obtain⟨its,rv,p,hz⟩:=I.list hq
  obtain⟨u,hu,ru⟩:=rv.get hx
  obtain⟨f0,f1,f2,f3,f4,f5⟩:=hf it (by simp)
  refine wpAny_pyNext_list_item st p.isList (x:=u) (by simpa using hu) λh' st' sb=>?_
  have I1:Inv X pins σ H { s with heap:=h' }:=I.turned (t':=s.toks) (λb o hb e=>(sb.2 b hb).trans e) f0 f1 f3 f4 f5
  obtain⟨o,e,c,d⟩:=id st'
  exact⟨u,rfl,vj (s:={ s with heap:=h' }) e c d (by decide) ⟨x,H,I1,ru,⟨rfl,λys hy=>by rw[I.list_inj hy hq]; exact hx⟩,st',λb hb=>(hf b hb).1⟩⟩
 done:=by
  intro X hP hw hK hc i pins s σ H E I hf st hg
  subst hP hw hK
  obtain⟨xs,hq,hx⟩:=hg
  obtain⟨its,rv,p,hz⟩:=I.list hq
  obtain⟨f0,f1,f2,f3,f4,f5⟩:=hf it (by simp)
  have hl:=rv.length
  exact wpAny_pyNext_list_end (I.ok.hd hc) st p.isList (by simp; omega) λh' eb=>⟨rfl,I.turned (t':=s.toks) (λb o hb e=>eb b o hb e) f0 f1 f3 f4 f5⟩
 self:=λ_ _ _ _ _ st h=>wpAny_pyIter_listiter st h
theorem FU {P:Program}{w:World}{K:PySem.W.Frag}{tg:Expr}(it:Addr)(lo:Int)(n:Nat):i5 P w K tg (mK lo n) [it] it (λi h=>IsRangeIter h it (lo + (i:Nat) * 1) ((n:Int) - (i:Nat)) 1) where
 mem:=by simp
 obj:=λi h st b hb=>by
  have e:b=it:=by simpa using hb
  subst e
  exact⟨_,st,λv z=>by
   have z':Data.fields _=Data.cell v:=z
   cases z'⟩
 keep:=λi h h' st k=>k it (by simp) _ st
 item:=by
  intro X hP hw hK hc i pins s σ H E I hf st hg
  subst hP hw hK
  obtain⟨f0,f1,f2,f3,f4,f5⟩:=hf it (by simp)
  have W:=Walks.range (prog:=X.prog) (w:=X.w) (I.ok.hd hc) it lo 1 n
  refine W.item i s _ _ hg st λv h' tk hv st' kk=>?_
  obtain⟨t,rfl⟩:=hv
  have I1:Inv X pins σ H { s with heap:=h',toks:=tk }:=I.turned (λb o hb e=>kk b o (by simpa using hb) e) f0 f1 f3 f4 f5
  refine⟨_,rfl,vj (s:={ s with heap:=h',toks:=tk }) (n := "range_iterator") st' rfl rfl (by decide) ⟨.int (lo + i),H,I1,⟨t,?_⟩,⟨rfl,rfl⟩,st',λb hb=>(hf b hb).1⟩⟩
  rw[Int.mul_one]
 done:=by
  intro X hP hw hK hc i pins s σ H E I hf st hg
  subst hP hw hK
  obtain⟨f0,f1,f2,f3,f4,f5⟩:=hf it (by simp)
  exact wpAny_pyNext_range_end (I.ok.hd hc) st (by have:n<=i:=hg; omega) λh' eb=>⟨rfl,I.turned (t':=s.toks) (λb o hb e=>eb b o hb e) f0 f1 f3 f4 f5⟩
 self:=λ_ _ _ _ _ st h=>wpAny_pyIter_rangeiter st h
section
variable {X:Cx}{tg:Expr}
def vi (K:PySem.W.Frag)(tl:TE):TI:=λσ H R=>tl σ H λx H1=>∃ a,x=.ref a/\(∃ xs,aD K H1 a xs)/\R (mM K a) H1
theorem cK {l:Expr}{tl:TE}(hl:PE X l tl):PI X tg l (vi X.K tl):=by
 intro pins s σ H R I h
 refine aZ (hl pins s σ H _ I h) λv s1 ⟨x,H1,I1,r1,q1⟩=>?_
 obtain⟨a,e,⟨xs,hq⟩,q⟩:=q1
 subst e
 cases r1
 obtain⟨its,rv,p,hz⟩:=I1.list hq
 refine wpAny_pyIter_list p.isList ?_
 refine⟨s1.heap.objs.size,[s1.heap.objs.size],_,_,H1,rfl,I1.kept (t':=s1.toks) λb o e=>bj _ e,FW a _,⟨_,fD _ rfl,rfl,rfl⟩,λb hb=>?_,q⟩
 have e:b=s1.heap.objs.size:=by simpa using hb
 subst e
 exact I1.fpOk (aY _) (I1.hok.fresh (aY _))
theorem Az {pins:List (Addr×Obj)}{σ:St}{H:Hp}{s:Shared}{R:It->Hp->Prop}{E:Value->Shared->Prop}{lo hi:Int}{t u v:Tok}{tk:Nat}(I:Inv X pins σ H s)(h1 : -(2 ^ 62)<=lo)(h2:lo < 2 ^ 62)(h3 : -(2 ^ 62)<=hi)(h4:hi < 2 ^ 62)
  (q:R (mK lo (hi - lo).toNat) H):wpAny (model X.prog X.w) X.A (pyIter (.ref s.heap.objs.size)) (yk X pins σ tg R) E { s with heap:=s.heap.push { cls:=.type "range",data:=.fields #[.int lo t,.int hi u,.int 1 v] },toks:=tk }:=by
 refine wpAny_pyIter_range (IsRange.new ..) (small_one h1 h2 h3 h4) ?_
 have I1:Inv X pins σ H { s with heap:=s.heap.push { cls:=.type "range",data:=.fields #[.int lo t,.int hi u,.int 1 v] },toks:=tk }:=I.kept λb o e=>bj _ e
 refine⟨(s.heap.push { cls:=.type "range",data:=.fields #[.int lo t,.int hi u,.int 1 v] }).objs.size,[(s.heap.push { cls:=.type "range",data:=.fields #[.int lo t,.int hi u,.int 1 v] }).objs.size],_,_,H,rfl,
  I1.kept (t':=tk) λb o e=>bj _ e,FU _ lo (hi - lo).toNat,?_,λb hb=>?_,q⟩
 ·have e1:lo + ((0:Nat):Int) * 1=lo:=by simp
  have e2:(((hi - lo).toNat:Nat):Int) - ((0:Nat):Int)=Builtin.Range.rangeSize lo hi 1:=by rw[rangeSize_one]; split <;> omega
  show IsRangeIter _ _ (lo + ((0:Nat):Int) * 1) ((((hi - lo).toNat:Nat):Int) - ((0:Nat):Int)) 1
  rw[e1,e2]
  exact fD _ rfl
 ·have e:b=(s.heap.push { cls:=.type "range",data:=.fields #[.int lo t,.int hi u,.int 1 v] }).objs.size:=by simpa using hb
  subst e
  exact I1.fpOk (aY _) (I1.hok.fresh (aY _))
def Lw (ta:TA):TI:=λσ H R=>ta σ H λvs H1=>∃ j:Int,vs=[.int j] /\ -(2 ^ 62)<=j/\j < 2 ^ 62/\R (mK 0 j.toNat) H1
def Lv (ta:TA):TI:=λσ H R=>ta σ H λvs H1=>∃ i j:Int,vs=[.int i,.int j]/\(-(2 ^ 62)<=i/\i < 2 ^ 62 /\ -(2 ^ 62)<=j/\j < 2 ^ 62)/\R (mK i (j - i).toNat) H1
theorem gH {a:Expr}{ta:TA}{p pos:Pos}(hg:Gl X "range") (hm:X.mg "range" = none) (ha:PA X [a] ta) (hs:starEach [a] X.env=[(false,eval a X.env)]:=by rfl):PI X tg (.Call (.Name "range" p) [a] [] pos) (Lw ta):=by
 intro pins s σ H R I h
 refine Call_ (jx I hg hm boot_range (pI (aZ (ha pos pins s σ H _ I h) λus s1 ⟨vs,H1,I1,r1,q1⟩=>?_) hs rfl))
 obtain⟨j,e,q1,q2,q⟩:=q1
 subst e
 cases r1 with
 | cons r rr =>
  cases rr
  obtain⟨t,rfl⟩:=r
  exact call_range_1 (Az I1 (by omega) (by omega) q1 q2 (by simpa using q))
theorem xQ {a b:Expr}{ta:TA}{p pos:Pos}(hg:Gl X "range") (hm:X.mg "range" = none) (ha:PA X [a,b] ta) (hs:starEach [a,b] X.env=[(false,eval a X.env),(false,eval b X.env)]:=by rfl) (hs2:starEach [b] X.env=[(false,eval b X.env)]:=by rfl) :
  PI X tg (.Call (.Name "range" p) [a,b] [] pos) (Lv ta):=by
 intro pins s σ H R I h
 refine Call_ (jx I hg hm boot_range (pI (aZ (ha pos pins s σ H _ I h) λus s1 ⟨vs,H1,I1,r1,q1⟩=>?_) (by rw[hs,hs2]) (by rw[hs2]; rfl)))
 obtain⟨i,j,e,⟨q1,q2,q3,q4⟩,q⟩:=q1
 subst e
 cases r1 with
 | cons r rr =>
  cases rr with
  | cons r' rr =>
   cases rr
   obtain⟨t,rfl⟩:=r
   obtain⟨t',rfl⟩:=r'
   exact call_range_2 (Az I1 q1 q2 q3 q4 q)
def zn (wi:TI)(g:TG)(tb:TS):TS:=λD σ H=>wi σ H λJ H1=>∃ W:Nat->Nat->St->Hp->Prop,(∃ m,W 0 m σ H1)/\∀ i m σ H,W i m σ H ->
 (J.stop i H/\D.nx σ H)∨(J.go i H/\∃ N:St->Hp->Prop,(∀ σ' H',N σ' H'->∃ m',m' < m/\W (i + 1) m' σ' H')/\∀ x H',J.yld i H x H'->g x σ H' λσ2 H2=>tb { D with nx:=N,ct:=N,bk:=D.nx } σ2 H2)
def kM (fp:List Addr)(h:Heap):List (Addr×Obj):=fp.filterMap λb=>(h.get? b).map λo=>(b,o)
theorem lv {fp:List Addr}{h:Heap}{b:Addr}{o:Obj}(hb:b∈fp)(e:h.get? b=some o):(b,o)∈kM fp h:=List.mem_filterMap.mpr ⟨b,hb,by rw[e]; rfl⟩
theorem KG {fp:List Addr}{h:Heap}{p:Addr×Obj}(hp:p∈kM fp h):p.1∈fp/\h.get? p.1=some p.2:=by
 obtain⟨b,hb,e⟩:=List.mem_filterMap.mp hp
 cases q:h.get? b with
 | none=>rw[q] at e; cases e
 | some o =>
  rw[q] at e
  have e':(b,o)=p:=kD e
  subst e'
  exact⟨hb,q⟩
theorem Inv.pinned {pins:List (Addr×Obj)}{σ:St}{H:Hp}{s:Shared}{fp:List Addr}(I:Inv X pins σ H s)(hf:∀ b∈fp,dM X pins H b)(ho:∀ b∈fp,∃ o,s.heap.get? b=some o/\∀ v,o.data≠.cell v):Inv X (pins ++ kM fp s.heap) σ H s :=
 I.pins_of λp hp=>(gQ.mp hp).elim (λz=>I.pin p (eK _ z)) λz=>by
  obtain⟨hb,e⟩:=KG z
  obtain⟨f0,f1,f2,_⟩:=hf p.1 hb
  obtain⟨o,e',d⟩:=ho p.1 hb
  rw[e] at e'; cases e'
  exact⟨e,f0,f1,f2,d⟩
theorem Inv.unpinned {pins pl:List (Addr×Obj)}{σ:St}{H:Hp}{s:Shared}(I:Inv X (pins ++ pl) σ H s):Inv X pins σ H s:=I.pins_of λp hp=>I.pin p (eK _ (pR _ hp))
theorem dD {iter:Expr}{body:List Stmt}{wi:TI}{g:TG}{tb:TS}{pos:Pos}(hp:PassesOwn (model X.prog X.w) X.A X.env X.xe)(hc:X.calm=true)(hi:PI X tg iter wi)(hg:PG X tg g)(hb:iZ X body tb)
  (hs:∀ x,foldedSetIterable iter X.env x=pure x:=by intro _; rfl):PS X (.For tg iter body [] pos) (zn wi g tb):=by
 intro pins s σ H D I h
 refine wpAny_For (aZ (hi pins s σ H _ I h) λv s1 h1=>aZ h1 λitv s2 h2=>?_) hs
 obtain⟨it,fp,tn,J,H2,e,I2,T,st2,f2,W,⟨m0,w0⟩,turn⟩:=h2
 subst e
 have stat:∀{H':Hp},(∀ b∈fp,H' b=none)->∀ b∈fp,dM X pins H' b:=λhn b hb=>⟨hn b hb,(f2 b hb).2⟩
 refine codeAny_forLoop_any (λn s'=>∃ i σ' H',Inv X pins σ' H' s'/\tn i s'.heap/\(∀ b∈fp,H' b=none)/\W i n σ' H') ?_ m0 ⟨0,σ,H2,I2,st2,λb hb=>(f2 b hb).1,w0⟩
 rintro n s3 ⟨i,σ3,H3,I3,st3,fr3,w3⟩
 rcases turn i n σ3 H3 w3 with⟨stop,qn⟩ | ⟨go,N,hN,step⟩
 ·refine oA hp (aZ (T.done X rfl rfl rfl hc i pins s3 σ3 H3 X.xe I3 (stat fr3) st3 stop) λr s4 ⟨hr,I4⟩=>?_)
  subst hr
  exact wpAny_execs_nil ⟨σ3,H3,I4,qn⟩
 ·refine oA hp (aZ (T.item X rfl rfl rfl hc i pins s3 σ3 H3 X.xe I3 (stat fr3) st3 go) λr s4 ⟨u,hr,h4⟩=>?_)
  subst hr
  refine oA hp (aZ h4 λ_ s5 ⟨x,H5,I5,r5,y5,st5,fr5⟩=>?_)
  have I5':=I5.pinned (stat fr5) (T.obj _ _ st5)
  refine oA hp (aZ (hg _ s5 σ3 H5 x u _ I5' r5 (step x H5 y5)) λ_ s6 ⟨σ6,H6,I6,q6⟩=>?_)
  refine oA hp (aZ (hb _ s6 σ6 H6 _ I6 q6) λf s7 q7=>?_)
  have again:∀{σ7:St} {H7:Hp},Inv X (pins ++ kM fp s5.heap) σ7 H7 s7->N σ7 H7->∃ m,m < n/\∃ i σ' H',Inv X pins σ' H' s7/\tn i s7.heap/\(∀ b∈fp,H' b=none)/\W i m σ' H':=λ{σ7 H7} I7 n7=>by
   obtain⟨m',hm,w7⟩:=hN σ7 H7 n7
   refine⟨m',hm,i + 1,σ7,H7,I7.unpinned,T.keep _ _ _ st5 λb hb o e=>(I7.pin (b,o) (eK _ (eK _ (lv hb e)))).1,λb hb=>?_,w7⟩
   obtain⟨o,e,d⟩:=T.obj _ _ st5 b hb
   exact(I7.pin (b,o) (eK _ (eK _ (lv hb e)))).2.1
  cases f with
  | next=>obtain⟨σ7,H7,I7,n7⟩:=q7; exact again I7 n7
  | cont=>obtain⟨σ7,H7,I7,n7⟩:=q7; exact again I7 n7
  | brk=>obtain⟨σ7,H7,I7,q7⟩:=q7; exact⟨σ7,H7,I7.unpinned,q7⟩
  | ret v=>obtain⟨x7,σ7,H7,I7,r7,q7⟩:=q7; exact⟨x7,σ7,H7,I7.unpinned,r7,q7⟩
end
theorem jN {K:PySem.W.Frag}{a:Addr}{xs:List V}{g:TG}{tb:TS}{D:jW}{σ:St}{H:Hp}(Pv:Nat->St->Hp->Prop)(h0:Pv 0 σ H)(hl:∀ i σ H,i<=xs.length->Pv i σ H->aD K H a xs)
  (hs:∀ i x σ H,xs[i]? = some x->Pv i σ H->g x σ H λσ2 H2=>tb { D with nx:=Pv (i + 1),ct:=Pv (i + 1),bk:=D.nx } σ2 H2) (hd:∀ σ H,Pv xs.length σ H->D.nx σ H) :
  ∃ W:Nat->Nat->St->Hp->Prop,(∃ m,W 0 m σ H)/\∀ i m σ H,W i m σ H ->
   ((mM K a).stop i H/\D.nx σ H)∨((mM K a).go i H/\∃ N:St->Hp->Prop,(∀ σ' H',N σ' H'->∃ m',m' < m/\W (i + 1) m' σ' H')/\∀ x H',(mM K a).yld i H x H'->g x σ H' λσ2 H2=>tb { D with nx:=N,ct:=N,bk:=D.nx } σ2 H2):=by
 refine⟨λi m σ H=>m=xs.length - i/\i<=xs.length/\Pv i σ H,⟨xs.length,by simp,bX _,h0⟩,?_⟩
 rintro i m σ H ⟨rfl,hi,p⟩
 have q:=hl i σ H hi p
 by_cases hlt:i < xs.length
 ·refine .inr ⟨⟨xs,xs[i],q,by simp[hlt]⟩,Pv (i + 1),λσ' H' p'=>⟨xs.length - (i + 1),by omega,rfl,hlt,p'⟩,λx H' y=>?_⟩
  obtain⟨e,y⟩:=y
  subst e
  exact hs i x σ _ (y xs q) p
 ·have e:i=xs.length:=by omega
  subst e
  exact .inl ⟨⟨xs,q,aY _⟩,hd σ H p⟩
theorem jy {lo:Int}{n:Nat}{g:TG}{tb:TS}{D:jW}{σ:St}{H:Hp}(Pv:Nat->St->Hp->Prop)(h0:Pv 0 σ H)
  (hs:∀ i σ H,i < n->Pv i σ H->g (.int (lo + i)) σ H λσ2 H2=>tb { D with nx:=Pv (i + 1),ct:=Pv (i + 1),bk:=D.nx } σ2 H2) (hd:∀ σ H,Pv n σ H->D.nx σ H) :
  ∃ W:Nat->Nat->St->Hp->Prop,(∃ m,W 0 m σ H)/\∀ i m σ H,W i m σ H ->
   ((mK lo n).stop i H/\D.nx σ H)∨((mK lo n).go i H/\∃ N:St->Hp->Prop,(∀ σ' H',N σ' H'->∃ m',m' < m/\W (i + 1) m' σ' H')/\∀ x H',(mK lo n).yld i H x H'->g x σ H' λσ2 H2=>tb { D with nx:=N,ct:=N,bk:=D.nx } σ2 H2):=by
 refine⟨λi m σ H=>m=n - i/\i<=n/\Pv i σ H,⟨n,by simp,bX _,h0⟩,?_⟩
 rintro i m σ H ⟨rfl,hi,p⟩
 by_cases hlt:i < n
 ·refine .inr ⟨hlt,Pv (i + 1),λσ' H' p'=>⟨n - (i + 1),by omega,rfl,hlt,p'⟩,λx H' y=>?_⟩
  obtain⟨e,y⟩:=y
  subst e y
  exact hs i σ _ hlt p
 ·have e:i=n:=by omega
  subst e
  exact .inl ⟨aY _,hd σ H p⟩
abbrev R2:=V->V->Hp->VK->Prop
def d9 (X:Cx)(f:Value->Value->Sem Value)(r:R2):Prop :=
 ∀(pins:List (Addr×Obj)) (s:Shared) (σ:St) (H:Hp) (x y:V) (v u:Value) (Q:VK),Inv X pins σ H s->RelV x v->RelV y u->r x y H Q ->
  wpAny (model X.prog X.w) X.A (f v u) (EP X pins σ Q) X.xe s
def ye (X:Cx)(f:Value->Sem Value)(r:V->Hp->VK->Prop):Prop :=
 ∀(pins:List (Addr×Obj)) (s:Shared) (σ:St) (H:Hp) (x:V) (v:Value) (Q:VK),Inv X pins σ H s->RelV x v->r x H Q ->
  wpAny (model X.prog X.w) X.A (f v) (EP X pins σ Q) X.xe s
def gZ (X:Cx)(f:Value)(r:List V->Hp->VK->Prop):Prop :=
 ∀(pins:List (Addr×Obj)) (s:Shared) (σ:St) (H:Hp) (xs:List V) (us:List Value) (Q:VK),Inv X pins σ H s->ai xs us->r xs H Q ->
  wpAny (model X.prog X.w) X.A (call f us) (EP X pins σ Q) X.xe s
def No (X:Cx)(r:V->Hp->(Bool->Hp->Prop)->Prop):Prop :=
 ∀(pins:List (Addr×Obj)) (s:Shared) (σ:St) (H:Hp) (x:V) (v:Value) (Q:Bool->Hp->Prop),Inv X pins σ H s->RelV x v->r x H Q ->
  wpAny (model X.prog X.w) X.A (truthy v) (TP X pins σ Q) X.xe s
def oJ (r:R2)(ta tb:TE):TE:=λσ H Q=>ta σ H λx H1=>tb σ H1 λy H2=>r x y H2 Q
def tUn (r:V->Hp->VK->Prop)(ta:TE):TE:=λσ H Q=>ta σ H λx H1=>r x H1 Q
def rI (C:Int->Int->Prop)(g:Int->Int->V):R2:=λx y H Q=>∃ i j,x=.int i/\y=.int j/\C i j/\Q (g i j) H
def kL (g:Int->Int->V):R2:=λx y H Q=>∃ i j,x=.int i/\y=.int j/\Q (g i j) H
def rU (g:Int->V):V->Hp->VK->Prop:=λx H Q=>∃ i,x=.int i/\Q (g i) H
section
variable {X:Cx}{a b c:Expr}{ta tb tc:TE}{pos:Pos}
theorem yY (ha:PE X a ta)(hb:PE X b tb){pins:List (Addr×Obj)}{s:Shared}{σ:St}{H:Hp}{R:V->V->Hp->Prop}(I:Inv X pins σ H s)
  (h:ta σ H λx H1=>tb σ H1 λy H2=>R x y H2) {Q:Value->Shared->Prop} {f:Value->Value->Sem Value}
  (hf:∀ v u s2 x y H2,Inv X pins σ H2 s2->RelV x v->RelV y u->R x y H2->wpAny (model X.prog X.w) X.A (f v u) Q X.xe s2) :
  wpAny (model X.prog X.w) X.A (eval a X.env) (λv s₁=>wpAny (model X.prog X.w) X.A (eval b X.env) (λu s₂=>wpAny (model X.prog X.w) X.A (f v u) Q X.xe s₂) X.xe s₁) X.xe s:=by
 refine aZ (ha pins s σ H _ I h) λv s1 ⟨x,H1,I1,r1,q1⟩=>?_
 refine aZ (hb pins s1 σ H1 _ I1 q1) λu s2 ⟨y,H2,I2,r2,q2⟩=>?_
 exact hf v u s2 x y H2 I2 r1 r2 q2
theorem am {op:Operator}{r:R2}(ho:d9 X (binaryOp op) r)(ha:PE X a ta)(hb:PE X b tb):PE X (.BinOp a op b pos) (oJ r ta tb):=by
 intro pins s σ H Q I h
 exact wpAny_BinOp (yY ha hb I h λv u s2 x y H2 I2 rx ry q=>ho pins s2 σ H2 x y v u Q I2 rx ry q)
theorem vJ {op:UnaryOp}{r:V->Hp->VK->Prop}(ho:ye X (unaryOp op) r)(ha:PE X a ta):PE X (.UnaryOp op a pos) (tUn r ta):=by
 intro pins s σ H Q I h
 exact UnaryOp_ (aZ (ha pins s σ H _ I h) λv s1 ⟨x,H1,I1,r1,q1⟩=>ho pins s1 σ H1 x v Q I1 r1 q1)
theorem vR {f:Value->Value->Sem Value}{C:Int->Int->Prop}{g:Int->Int->Int}
  (rule:∀(i j:Int) (t u:Tok) (s:Shared) (Q:Value->Shared->Prop) (E:Value->Shared->Prop),C i j->Q (.int (g i j) s.toks) { s with toks:=s.toks + 1 }->wpAny (model X.prog X.w) X.A (f (.int i t) (.int j u)) Q E s) :
  d9 X f (rI C λi j=>.int (g i j)):=by
 intro pins s σ H x y v u Q I rx ry h
 obtain⟨i,j,rfl,rfl,hc,q⟩:=h
 obtain⟨t,rfl⟩:=rx
 obtain⟨t',rfl⟩:=ry
 exact rule i j t t' s _ _ hc ⟨.int (g i j),H,I.tok _,⟨_,rfl⟩,q⟩
theorem BR {f:Value->Value->Sem Value}{g:Int->Int->Int}
  (rule:∀(i j:Int) (t u:Tok) (s:Shared) (Q:Value->Shared->Prop) (E:Value->Shared->Prop),Q (.int (g i j) s.toks) { s with toks:=s.toks + 1 }->wpAny (model X.prog X.w) X.A (f (.int i t) (.int j u)) Q E s) :
  d9 X f (kL λi j=>.int (g i j)):=by
 intro pins s σ H x y v u Q I rx ry h
 obtain⟨i,j,rfl,rfl,q⟩:=h
 obtain⟨t,rfl⟩:=rx
 obtain⟨t',rfl⟩:=ry
 exact rule i j t t' s _ _ ⟨.int (g i j),H,I.tok _,⟨_,rfl⟩,q⟩
theorem vS {f:Value->Value->Sem Value}{g:Int->Int->Bool}
  (rule:∀(i j:Int) (t u:Tok) (s:Shared) (Q:Value->Shared->Prop) (E:Value->Shared->Prop),Q (.bool (g i j)) s->wpAny (model X.prog X.w) X.A (f (.int i t) (.int j u)) Q E s) :
  d9 X f (kL λi j=>.bl (g i j)):=by
 intro pins s σ H x y v u Q I rx ry h
 obtain⟨i,j,rfl,rfl,q⟩:=h
 obtain⟨t,rfl⟩:=rx
 obtain⟨t',rfl⟩:=ry
 exact rule i j t t' s _ _ ⟨.bl (g i j),H,I,rfl,q⟩
def Ob (i j:Int):Prop:=0 < j/\j < 1073741824
def Oa (i j:Int):Prop:=0<=j/\j<=1000000/\i.natAbs < 2 ^ 64
def zE (i j:Int):Prop:=(-(2 ^ 64) < i/\i < 2 ^ 64)∨(-(2 ^ 64) < j/\j < 2 ^ 64)
theorem zE.ok {i j:Int}(h:zE i j):IntMulOk i j:=by
 rcases h with⟨h1,h2⟩ | ⟨h1,h2⟩
 ·exact .of_left (intBits_le_64 h1 h2)
 ·exact .of_right (intBits_le_64 h1 h2)
theorem dG:d9 X (binaryOp .Add) (kL λi j=>.int (i + j)):=BR λ_ _ _ _ _ _ _ q=>add_int q
theorem BJ:d9 X (binaryOp .Sub) (kL λi j=>.int (i - j)):=BR λ_ _ _ _ _ _ _ q=>sub_int q
theorem ju:d9 X (binaryOp .Mult) (rI zE λi j=>.int (i * j)):=vR λ_ _ _ _ _ _ _ hc q=>mul_int q hc.ok
theorem kP:d9 X (binaryOp .FloorDiv) (rI Ob λi j=>.int (i / j)):=vR λi j _ _ _ _ _ hc q=>by
 have h1:(0:Int) < j:=hc.1
 have h2:j < 1073741824:=hc.2
 exact floordiv_int (by omega) (by rw[Int.fdiv_eq_ediv_of_nonneg i (by omega)]; exact q) (.inl (PyProof.noPylong_small (by omega)))
theorem eE:d9 X (binaryOp .Mod) (rI (λ_ j=>0 < j) λi j=>.int (i % j)):=vR λi j _ _ _ _ _ hc q=>by
 have h1:(0:Int) < j:=hc
 exact mod_int' (by omega) (by rw[Int.fmod_eq_emod_of_nonneg i (by omega)]; exact q)
theorem BL:d9 X (binaryOp .Pow) (rI Oa λi j=>.int (i ^ j.toNat)):=vR λ_ _ _ _ _ _ _ hc q=>pow_int_small hc.1 hc.2.1 hc.2.2 q
theorem unI {f:Value->Sem Value}{g:Int->Int}
  (rule:∀(i:Int) (t:Tok) (s:Shared) (Q:Value->Shared->Prop) (E:Value->Shared->Prop),Q (.int (g i) s.toks) { s with toks:=s.toks + 1 }->wpAny (model X.prog X.w) X.A (f (.int i t)) Q E s) :
  ye X f (rU λi=>.int (g i)):=by
 intro pins s σ H x v Q I rx h
 obtain⟨i,rfl,q⟩:=h
 obtain⟨t,rfl⟩:=rx
 exact rule i t s _ _ ⟨.int (g i),H,I.tok _,⟨_,rfl⟩,q⟩
theorem tX:ye X (unaryOp .USub) (rU λi=>.int (-i)):=unI λ_ _ _ _ _ q=>neg_int q
def Ae:V->V->Bool
 | .non,.non=>true | .non,.int _=>true | .int _,.non=>true | .non,.bl _=>true | .bl _,.non=>true | .non,.str _=>true | .str _,.non=>true
 | .int _,.int _=>true | .bl _,.bl _=>true | .str _,.str _=>true | .byt _,.byt _=>true
 | .int _,.str _=>true | .str _,.int _=>true | .bl _,.str _=>true | .str _,.bl _=>true
 | _,_=>false
def rEq:R2:=λx y H Q=>Ae x y=true/\Q (.bl (decide (x=y))) H
def rNe:R2:=λx y H Q=>Ae x y=true/\Q (.bl (!decide (x=y))) H
theorem iW {i j:Int}:decide (V.int i=V.int j)=(i == j):=by
 rw[i6]
 simp
theorem yK {i j:Bool}:decide (V.bl i=V.bl j)=(i == j):=by
 rw[i6]
 simp
theorem w9 {i j:Str}:decide (V.str i=V.str j)=(i == j):=by
 rw[i6]
 simp
theorem DR {i j:Array UInt8}:decide (V.byt i=V.byt j)=(i.toList == j.toList):=by
 rw[i6]
 cases i
 cases j
 simp
theorem cf {pins:List (Addr×Obj)}{σ:St}{H:Hp}{s:Shared}{Q:VK}{k k':Bool}(I:Inv X pins σ H s)(q:Q (.bl k) H)(e:k=k'):EP X pins σ Q (.bool k') s:=by
 subst e
 exact⟨.bl k,H,I,rfl,q⟩
theorem cF:d9 X (compareOp .Eq) rEq:=by
 intro pins s σ H x y v u Q I rx ry h
 obtain⟨hs,q⟩:=h
 cases x with
 | non =>
  cases rx
  cases y with
  | non=>cases ry; exact PySem.EqNone.eq_none_none (cf I q (by simp))
  | bl j=>cases ry; exact PySem.EqNone.eq_none_bool (cf I q (by simp))
  | int j=>obtain⟨t',rfl⟩:=ry; exact PySem.EqNone.eq_none_int (cf I q (by simp))
  | str j=>obtain⟨t',rfl⟩:=ry; exact PySem.EqNone.eq_none_str (cf I q (by simp))
  | _=>exact absurd (show false=true from hs) dN
 | bl i =>
  cases rx
  cases y with
  | non=>cases ry; exact PySem.EqNone.eq_bool_none (cf I q (by simp))
  | bl j=>cases ry; exact eq_bool (cf I q yK)
  | str j=>obtain⟨t',rfl⟩:=ry; exact PySem.EqMixed.eq_bool_str (cf I q (by simp))
  | _=>exact absurd (show false=true from hs) dN
 | int i =>
  obtain⟨t,rfl⟩:=rx
  cases y with
  | non=>cases ry; exact PySem.EqNone.eq_int_none (cf I q (by simp))
  | int j=>obtain⟨t',rfl⟩:=ry; exact eq_int (cf I q iW)
  | str j=>obtain⟨t',rfl⟩:=ry; exact PySem.EqMixed.eq_int_str (cf I q (by simp))
  | _=>exact absurd (show false=true from hs) dN
 | str i =>
  obtain⟨t,rfl⟩:=rx
  cases y with
  | non=>cases ry; exact PySem.EqNone.eq_str_none (cf I q (by simp))
  | bl j=>cases ry; exact PySem.EqMixed.eq_str_bool (cf I q (by simp))
  | int j=>obtain⟨t',rfl⟩:=ry; exact PySem.EqMixed.eq_str_int (cf I q (by simp))
  | str j=>obtain⟨t',rfl⟩:=ry; exact eq_str (cf I q w9)
  | _=>exact absurd (show false=true from hs) dN
 | byt i =>
  obtain⟨t,rfl⟩:=rx
  cases y with
  | byt j=>obtain⟨t',rfl⟩:=ry; exact PySem.W.eq_bytes (cf I q DR)
  | _=>exact absurd (show false=true from hs) dN
 | _=>cases y <;> exact absurd (show false=true from hs) dN
theorem jt:d9 X (compareOp .NotEq) rNe:=by
 intro pins s σ H x y v u Q I rx ry h
 obtain⟨hs,q⟩:=h
 cases x with
 | non =>
  cases rx
  cases y with
  | non=>cases ry; exact PySem.EqNone.ne_none_none (cf I q (by simp))
  | bl j=>cases ry; exact PySem.EqNone.ne_none_bool (cf I q (by simp))
  | int j=>obtain⟨t',rfl⟩:=ry; exact PySem.EqNone.ne_none_int (cf I q (by simp))
  | str j=>obtain⟨t',rfl⟩:=ry; exact PySem.EqNone.ne_none_str (cf I q (by simp))
  | _=>exact absurd (show false=true from hs) dN
 | bl i =>
  cases rx
  cases y with
  | non=>cases ry; exact PySem.EqNone.ne_bool_none (cf I q (by simp))
  | bl j=>cases ry; exact ne_bool (cf I q (iY not yK))
  | str j=>obtain⟨t',rfl⟩:=ry; exact PySem.EqMixed.ne_bool_str (cf I q (by simp))
  | _=>exact absurd (show false=true from hs) dN
 | int i =>
  obtain⟨t,rfl⟩:=rx
  cases y with
  | non=>cases ry; exact PySem.EqNone.ne_int_none (cf I q (by simp))
  | int j=>obtain⟨t',rfl⟩:=ry; exact ne_int (cf I q (iY not iW))
  | str j=>obtain⟨t',rfl⟩:=ry; exact PySem.EqMixed.ne_int_str (cf I q (by simp))
  | _=>exact absurd (show false=true from hs) dN
 | str i =>
  obtain⟨t,rfl⟩:=rx
  cases y with
  | non=>cases ry; exact PySem.EqNone.ne_str_none (cf I q (by simp))
  | bl j=>cases ry; exact PySem.EqMixed.ne_str_bool (cf I q (by simp))
  | int j=>obtain⟨t',rfl⟩:=ry; exact PySem.EqMixed.ne_str_int (cf I q (by simp))
  | str j=>obtain⟨t',rfl⟩:=ry; exact ne_str (cf I q (iY not w9))
  | _=>exact absurd (show false=true from hs) dN
 | byt i =>
  obtain⟨t,rfl⟩:=rx
  cases y with
  | byt j=>obtain⟨t',rfl⟩:=ry; exact PySem.W.ne_bytes (cf I q (iY not DR))
  | _=>exact absurd (show false=true from hs) dN
 | _=>cases y <;> exact absurd (show false=true from hs) dN
theorem iQ:d9 X (compareOp .Lt) (kL λi j=>.bl (decide (i < j))):=vS λ_ _ _ _ _ _ _ q=>lt_int q
theorem JV:d9 X (compareOp .LtE) (kL λi j=>.bl (decide (i<=j))):=vS λ_ _ _ _ _ _ _ q=>le_int q
theorem n5:d9 X (compareOp .Gt) (kL λi j=>.bl (decide (j < i))):=vS λ_ _ _ _ _ _ _ q=>gt_int q
theorem BO:d9 X (compareOp .GtE) (kL λi j=>.bl (decide (j<=i))):=vS λ_ _ _ _ _ _ _ q=>ge_int q
theorem BN:d9 X (compareOp .In) (λx y H Q=>∃ i j,x=.str i/\y=.str j/\Q (.bl (!(Builtin.Str.occurrences j i 0 j.length 1).isEmpty)) H):=by
 intro pins s σ H x y v u Q I rx ry h
 obtain⟨i,j,rfl,rfl,q⟩:=h
 obtain⟨t,rfl⟩:=rx
 obtain⟨t',rfl⟩:=ry
 exact in_str (cf I q rfl)
theorem BM:d9 X (compareOp .Is) (λx y H Q=>y=.non/\Q (.bl (decide (x=.non))) H):=by
 intro pins s σ H x y v u Q I rx ry h
 obtain⟨rfl,q⟩:=h
 cases ry
 refine is_none_gen (cf I q ?_)
 cases x <;> first
  | (cases rx; rfl)
  | (obtain⟨t,rfl⟩:=rx; rfl)
theorem ao (b:Expr){op:CmpOp}(h:op≠.In:=by decide)(h2:op≠.NotIn:=by decide):behindInMarks op b=false:=by
 have e1:(op == CmpOp.In)=false:=by cases op <;> first | rfl | exact absurd rfl h
 have e2:(op == CmpOp.NotIn)=false:=by cases op <;> first | rfl | exact absurd rfl h2
 cases b <;> simp[behindInMarks,e1,e2]
theorem eO {op:CmpOp}{r:R2}(ho:d9 X (compareOp op) r)(ha:PE X a ta)(hb:PE X b tb)(hm:behindInMarks op b=false):PE X (.Compare a [op] [b] pos) (oJ r ta tb):=by
 intro pins s σ H Q I h
 exact wpAny_Compare1 (yY ha hb I h λv u s2 x y H2 I2 rx ry q=>ho pins s2 σ H2 x y v u Q I2 rx ry q) hm
def Fk (t:TE):TT:=λσ H Q=>t σ H λx H'=>∃ k,x=.bl k/\Q k H'
theorem aw {op:CmpOp}{r:R2}(ho:d9 X (compareOp op) r)(ha:PE X a ta)(hb:PE X b tb)(hm:behindInMarks op b=false):PT X (.Compare a [op] [b] pos) (Fk (oJ r ta tb)):=by
 intro pins s σ H Q I h
 refine wpAny_isTrue_Compare1 (aZ (ha pins s σ H _ I h) λv s1 ⟨x,H1,I1,r1,q1⟩=>aZ (hb pins s1 σ H1 _ I1 q1) λu s2 ⟨y,H2,I2,r2,q2⟩ =>
  aZ (ho pins s2 σ H2 x y v u _ I2 r1 r2 q2) λc s3 ⟨z,H3,I3,r3,k,e,q3⟩=>?_) hm
 subst e
 cases r3
 exact o9 ⟨H3,I3,q3⟩
def yf (K:PySem.W.Frag)(x:V)(H:Hp)(k:Bool):Prop :=
 match x with
 | .non=>k=false
 | .bl b=>k=b
 | .int i=>k=(i != 0)
 | .str y=>y.length<=sizeLine/\k=((y.length:Int) != 0)
 | .byt y=>y.size<=sizeLine/\k=((y.size:Int) != 0)
 | .ref p=>(∃ xs,aD K H p xs/\k = !xs.isEmpty)∨(∃ xs,bT K H p xs/\k = !xs.isEmpty)∨∃ kvs,H p=some (.dK kvs)/\k = !kvs.isEmpty
 | _=>False
theorem Lg {κ:Type}{kvs:List (κ×V)}{vs:List (κ×Value)}(r:KV kvs vs):(!vs.isEmpty) = !kvs.isEmpty:=by
 cases r <;> rfl
theorem CZ {xs:List V}{its:List Value}(r:ai xs its):(!its.toArray.isEmpty) = !xs.isEmpty:=by
 cases r <;> simp
theorem p7:(sizeLine:Nat) < 2 ^ 63:=by rw[fG]; decide
theorem Fe:No X (λx H Q=>∃ k,yf X.K x H k/\Q k H):=by
 intro pins s σ H x v Q I rx h
 obtain⟨k,e,q⟩:=h
 have hl:=p7
 have hs:sizeLine=16777216:=fG
 cases x with
 | non =>
  cases rx
  have e':k=false:=e
  subst e'
  exact truthy_none ⟨H,I,q⟩
 | bl b =>
  cases rx
  have e':k=b:=e
  subst e'
  exact o9 ⟨H,I,q⟩
 | int i =>
  obtain⟨t,rfl⟩:=rx
  have e':k=(i != 0):=e
  subst e'
  exact PySem.P.truthy_int ⟨H,I,q⟩
 | str y =>
  obtain⟨t,rfl⟩:=rx
  obtain⟨hy,e'⟩:y.length<=sizeLine/\k=((y.length:Int) != 0):=e
  subst e'
  exact PySem.P.truthy_str (by omega) ⟨H,I.tok _,q⟩
 | byt y =>
  obtain⟨t,rfl⟩:=rx
  obtain⟨hy,e'⟩:y.size<=sizeLine/\k=((y.size:Int) != 0):=e
  subst e'
  exact PySem.W.truthy_bytes (by omega) ⟨H,I.tok _,q⟩
 | ref p =>
  cases rx
  have e':(∃ xs,aD X.K H p xs/\k = !xs.isEmpty)∨(∃ xs,bT X.K H p xs/\k = !xs.isEmpty)∨∃ kvs,H p=some (.dK kvs)/\k = !kvs.isEmpty:=e
  rcases e' with⟨xs,hx,e'⟩ | ⟨xs,hx,e'⟩ | ⟨kvs,hx,e'⟩
  ·subst e'
   obtain⟨its,r,pl,hz⟩:=I.list hx
   have hlen:=r.length
   exact wpAny_truthy_list pl.isList (by simp only[fX]; omega) ⟨H,I.tok _,by rw[CZ r]; exact q⟩
  ·subst e'
   obtain⟨its,r,pl,hz⟩:=I.tuple hx
   have hlen:=r.length
   exact truthy_tuple pl (by simp only[fX]; omega) ⟨H,I.tok _,by rw[CZ r]; exact q⟩
  ·subst e'
   obtain⟨hz,hS,vs,r,m⟩:kvs.length<=sizeLine/\(p == sysModules)=false/\∃ vs,KV kvs vs/\s.heap.DictOf (dg X.prog X.w) p vs:=I.hok p _ hx
   have hlen:kvs.length=vs.length:=Paired.length r
   exact wpAny_truthy_dict hS m (by omega) ⟨H,I.tok _,by rw[Lg r]; exact q⟩
 | _=>exact(show False from e).elim
theorem oY (ha:PE X a ta)(he:∀ whole,isTrue a X.env whole=(do let v <- whole; standAt a.pos; holding [v] (truthy v))) :
  PT X a (λσ H Q=>ta σ H λx H'=>∃ k,yf X.K x H' k/\Q k H'):=by
 intro pins s σ H Q I h
 exact isTrue_plain (aZ (ha pins s σ H _ I h) λv s1 ⟨x,H1,I1,r1,q1⟩=>Fe pins s1 σ H1 x v Q I1 r1 q1) (he _)
theorem kQ:d9 X (binaryOp .Add) (λx y H Q=>∃ i j,x=.str i/\y=.str j/\i.length + j.length<=sizeLine/\Q (.str (i ++ j)) H):=by
 intro pins s σ H x y v u Q I rx ry h
 obtain⟨i,j,rfl,rfl,hz,q⟩:=h
 obtain⟨t,rfl⟩:=rx
 obtain⟨t',rfl⟩:=ry
 exact add_str (λt' tk=>⟨.str (i ++ j),H,I.tok _,⟨_,rfl⟩,q⟩) hz
theorem qA {x:V}{us:List Value}(r:ai [x] us):∃ u,us=[u]/\RelV x u:=by
 cases r with
 | cons r1 r2=>cases r2; exact⟨_,rfl,r1⟩
theorem zR {x y:V}{us:List Value}(r:ai [x,y] us):∃ u w',us=[u,w']/\RelV x u/\RelV y w':=by
 cases r with
 | cons r1 r2 =>
  cases r2 with
  | cons r3 r4=>cases r4; exact⟨_,_,rfl,r1,r3⟩
theorem E5:gZ X (.builtin "abs") (λxs H Q=>∃ i,xs=[.int i]/\Q (.int (if i < 0 then -i else i)) H):=by
 intro pins s σ H xs us Q I r h
 obtain⟨i,rfl,q⟩:=h
 obtain⟨u,rfl,t,rfl⟩:=qA r
 exact call_abs_int λu tk=>⟨.int (if i < 0 then -i else i),H,I.tok _,⟨_,rfl⟩,q⟩
theorem E4 (hc:X.calm=true):gZ X (.builtin "max") (λxs H Q=>∃ i j,xs=[.int i,.int j]/\Q (.int (if j > i then j else i)) H):=by
 intro pins s σ H xs us Q I r h
 obtain⟨i,j,rfl,q⟩:=h
 obtain⟨u,w',rfl,⟨t,rfl⟩,⟨t',rfl⟩⟩:=zR r
 refine max_two_ints (I.ok.hd hc) λh' tk k=>⟨_,H,I.kept k,?_,q⟩
 by_cases hj:j > i
 ·rw[aP hj,aP hj]; exact⟨_,rfl⟩
 ·rw[aN hj,aN hj]; exact⟨_,rfl⟩
theorem NC (hc:X.calm=true):gZ X (.builtin "min") (λxs H Q=>∃ i j,xs=[.int i,.int j]/\Q (.int (if j < i then j else i)) H):=by
 intro pins s σ H xs us Q I r h
 obtain⟨i,j,rfl,q⟩:=h
 obtain⟨u,w',rfl,⟨t,rfl⟩,⟨t',rfl⟩⟩:=zR r
 refine min_two_ints (I.ok.hd hc) λh' tk k=>⟨_,H,I.kept k,?_,q⟩
 by_cases hj:j < i
 ·rw[aP hj,aP hj]; exact⟨_,rfl⟩
 ·rw[aN hj,aN hj]; exact⟨_,rfl⟩
theorem yR:gZ X (.type "int") (λxs H Q=>(∃ i,xs=[.int i]/\Q (.int i) H)∨∃ k,xs=[.bl k]/\Q (.int (if k then 1 else 0)) H):=by
 intro pins s σ H xs us Q I r h
 rcases h with⟨i,rfl,q⟩ | ⟨k,rfl,q⟩
 ·obtain⟨u,rfl,t,rfl⟩:=qA r
  exact call_int_int ⟨.int i,H,I,⟨_,rfl⟩,q⟩
 ·obtain⟨u,rfl,r1⟩:=qA r
  cases r1
  exact call_int_bool ⟨.int (if k then 1 else 0),H,I.tok _,⟨_,rfl⟩,q⟩
end
structure np (h:Heap) (x dx C:Addr) (mA:Str->Option Value):Prop where
 obj:h.get? x=some (PySem.W.instObj C dx)
 ns:h.Ns1 dx mA
 ne:dx≠x
theorem LI {h:Heap}{dx:Addr}{mA:Str->Option Value}(n:h.Ns1 dx mA):∃ od,h.get? dx=some od/\∀ name,PySem.W.lookIn name od=some (mA name):=by
 obtain⟨o,es,ep,ho,hd,hk,_,hm⟩:=n
 refine⟨o,ho,λname=>?_⟩
 have e:=hm name
 unfold nsFind findBy at e
 rw[<- Array.find?_toList] at e
 unfold PySem.W.lookIn
 rw[hd]
 dsimp only
 split
 ·rename_i y q
  rw[q] at e
  exact iY some e
 ·rename_i q
  rw[q] at e
  have a:es.toList.any (·.refKey)=false:=by
   rw[List.any_eq_false]
   intro y hy
   obtain⟨z,t,hkey⟩:=hk y (Array.mem_toList_iff.mp hy)
   simp[DictEntry.refKey,hkey]
  have a':¬ es.toList.any (·.refKey)=true:=by rw[a]; exact dN
  rw[aN a']
  exact iY some e
theorem np.look {h:Heap}{x dx C:Addr}{mA:Str->Option Value}(I:np h x dx C mA):∃ od,PySem.W.InstAt h x (PySem.W.instObj C dx) C (some od)/\∀ name,PySem.W.lookIn name od=some (mA name) :=
 let ⟨od,ho,hl⟩:=LI I.ns
 ⟨od,⟨I.obj,rfl,rfl,ho⟩,hl⟩
section
variable {prog:Program}{w:World}{A:Around}{E:Value->Shared->Prop}{s:Shared}{K:PySem.W.Frag}{x dx C f:Addr}{mA:Str->Option Value}{name:Str}{v:Value}
theorem M7 {expr:Bool}{Q:Value->Shared->Prop}(X:K.In s.heap)(I:np s.heap x dx C mA)(hg:PySem.W.plainGet K C name=true)(hh:PySem.W.hasDictIn K C=true)
  (ha:PySem.W.findIn K (.ref C) name=some none) (hv:mA name=some v) (hv':PySem.W.handedIn v=true) (h:Q v { s with toks:=s.toks + 1 }) :
  wpAny (model prog w) A (getAttr (.ref x) name expr) Q E s:=by
 obtain⟨od,J,hl⟩:=I.look
 exact PySem.W.get_value X J (PySem.W.plainGet_of hg).1 (PySem.W.findObj_own hh ha rfl (by rw[hl,hv])) hv' h
theorem M6 {pl:Sem Bool}{Q:Value×List Value->Shared->Prop}(X:K.In s.heap)(I:np s.heap x dx C mA)(hg:PySem.W.plainGet K C name=true)
  (hf:PySem.W.findIn K (.ref C) name=some (some (.ref f))) (ht:PySem.W.isFn K (.ref f)=true) (hv:mA name=none) (h:Q (.ref f,[.ref x]) s) :
  wpAny (model prog w) A (getMethod (.ref x) name pl) Q E s:=by
 obtain⟨od,J,hl⟩:=I.look
 exact PySem.W.method_fn X J (PySem.W.plainGet_of hg).1 (PySem.W.plainGet_of hg).2 hf (beq_iff_eq.mp ht) (by show(PySem.W.lookIn name od).map (·.isSome)=some false; rw[hl,hv]; rfl) h
theorem Hi {ns:List Str}{Q:Unit->Shared->Prop}(X:K.In s.heap)(I:np s.heap x dx C mA)
  (hs:PySem.W.findIn K (.ref C) "__setattr__" = some (some (.builtin "object.__setattr__"))) (hp:PySem.W.plainOver K C=true) (ht:PySem.W.takerIn K C name=some none) (hh:PySem.W.hasDictIn K C=true)
  (hw:PySem.Within mA ns) (hsz:ns.length<=sizeLine)
  (h:∀ h',np h' x dx C (λy=>if y=name then some v else mA y)->Heap.SameBut dx s.heap h'->Q () { s with heap:=h',toks:=s.toks + 2 }) :
  wpAny (model prog w) A (setAttr (.ref x) name v) Q E s:=by
 obtain⟨od,J,hl⟩:=I.look
 refine PySem.W.set_plain X J hs (PySem.W.osa_open (s:={ s with toks:=s.toks + 1 }) (r:=none) X J hp ht λb=>?_)
 obtain⟨cd,hc,hd'⟩:=PySem.W.any_some hh
 have hx:s.heap.get? x=some ⟨.ref C,some dx,.plain,#[]⟩:=I.obj
 refine aE (aa (aE (aE (wpAny_loadPart hx (aE (PySem.W.Looks.here (s:={ s with toks:=s.toks + 1 }) (PySem.W.looks_clsIn X hc) ?_))))))
 rw[hd']
 refine aa (a:=some dx) (aE (aa (aE ?_)))
 refine wpAny_nsSet1 (s:={ s with toks:=s.toks + 1 }) I.ns λh' hn2 hs2=>?_
 obtain⟨oD,esD,epD,hoD,hdD,hcD⟩:=hn2.count (PySem.Within.cons name v hw)
 refine aE (wpAny_lookBehind hoD (by rw[hdD]; exact pastItsLine_dict (b8 hcD (by rw[dm]; omega))) ?_)
 exact aa (h _ ⟨(hs2.2 _ (fB I.ne)).trans I.obj,hn2,I.ne⟩ hs2)
theorem LC {R:Result->Shared->Prop}{vs:List Value}{kw:List (Str×Value)}(X:K.In s.heap)(hm:PySem.W.makesIn K C=true)
  (hi:PySem.W.findIn K (.ref C) "__init__" = some (some (.ref f))) (hf:PySem.W.typeIn K (.ref f)=some (.type "function"))
  (h:codeAny (model prog w) (A.under (.builtin "type.__call__" ⟨.ref C :: vs,kw⟩)) (.call (.ref f) ⟨.ref (s.heap.objs.size + 1) :: vs,kw⟩) (PySem.W.InitBack (s.heap.objs.size + 1) R)
   { s with heap:=(s.heap.push PySem.W.emptyDict).push (PySem.W.instObj C s.heap.objs.size) }) :
  codeAny (model prog w) A (.call (.ref C) ⟨vs,kw⟩) R s:=by
 obtain⟨hh,g,d,t,os⟩:=s
 exact PySem.W.make_core (PySem.W.makes_of X hm) (PySem.W.looks_findIn X hi) (λself=>PySem.W.bind_fn X self hf) (.inl rfl) h
end
def dR (f:Str)(v:V):List (Str×V)->List (Str×V)
 | []=>[(f,v)]
 | (g,x) :: r=>if g=f then (g,v) :: r else (g,x) :: dR f v r
theorem CM (f g:Str)(v:V):∀ fs:List (Str×V),(dR f v fs).lookup g=if g=f then some v else fs.lookup g
 | []=>by
  show List.lookup g [(f,v)]=_
  by_cases h:g=f
  ·have hb:(g == f)=true:=beq_iff_eq.mpr h
   simp only[List.lookup,hb,aP h]
  ·have hb:(g == f)=false:=pH.mpr h
   simp only[List.lookup,hb,aN h]
 | (k,x) :: r=>by
  have ih:=CM f g v r
  rw[show dR f v ((k,x) :: r)=(if k=f then (k,v) :: r else (k,x) :: dR f v r) from rfl]
  by_cases hk:k=f
  ·rw[aP hk]
   by_cases h:g=k
   ·have hb:(g == k)=true:=beq_iff_eq.mpr h
    simp only[List.lookup,hb,aP (h.trans hk)]
   ·have hb:(g == k)=false:=pH.mpr h
    simp only[List.lookup,hb,aN (λe:g=f=>h (e.trans hk.symm))]
  ·rw[aN hk]
   by_cases h:g=k
   ·have hb:(g == k)=true:=beq_iff_eq.mpr h
    simp only[List.lookup,hb,aN (λe:g=f=>hk (h.symm.trans e))]
   ·have hb:(g == k)=false:=pH.mpr h
    simp only[List.lookup,hb]
    exact ih
theorem xz (f:Str)(v:V):∀ fs:List (Str×V),f∈(dR f v fs).map (·.1)/\∀ g,g∈fs.map (·.1)->g∈(dR f v fs).map (·.1)
 | []=>⟨by simp[dR],λg h=>by simp at h⟩
 | (k,x) :: r=>by
  obtain⟨i1,i2⟩:=xz f v r
  rw[show dR f v ((k,x) :: r)=(if k=f then (k,v) :: r else (k,x) :: dR f v r) from rfl]
  by_cases hk:k=f
  ·rw[aP hk]
   subst hk
   exact⟨by simp,λg h=>by simpa using h⟩
  ·rw[aN hk]
   refine⟨?_,λg h=>?_⟩
   ·rw[eU]
    exact dy _ i1
   ·rw[eU] at h ⊢
    rcases bh.mp h with e | e
    ·exact List.mem_cons.mpr (.inl e)
    ·exact dy _ (i2 g e)
theorem CS (f:Str)(v:V):∀ fs:List (Str×V),(dR f v fs).length<=fs.length + 1
 | []=>by simp[dR]
 | (k,x) :: r=>by
  have ih:=CS f v r
  rw[show dR f v ((k,x) :: r)=(if k=f then (k,v) :: r else (k,x) :: dR f v r) from rfl]
  by_cases hk:k=f
  ·rw[aP hk,dm,dm]; omega
  ·rw[aN hk,dm,dm]; omega
theorem yh {v:V}{o:Option Value}(r:fR (some v) o):∃ u,o=some u/\RelV v u:=by
 cases o with
 | none=>exact(show False from r).elim
 | some u=>exact⟨u,rfl,r⟩
theorem Nv {o:Option Value}(r:fR none o):o=none:=by
 cases o with
 | none=>rfl
 | some u=>exact(show False from r).elim
theorem M4 {v:V}{u:Value}(r:RelV v u):PySem.W.handedIn u=true:=by
 cases v with
 | non=>cases (show u=Value.none from r); rfl
 | bl b=>cases (show u=Value.bool b from r); rfl
 | int i=>obtain⟨t,e⟩:=(show ∃ t,u=Value.int i t from r); cases e; rfl
 | str x=>obtain⟨t,e⟩:=(show ∃ t,u=Value.str x t from r); cases e; rfl
 | byt b=>obtain⟨t,e⟩:=(show ∃ t,u=Value.bytes b t from r); cases e; rfl
 | flt b=>obtain⟨t,e⟩:=(show ∃ t,u=Value.float b t from r); cases e; rfl
 | ref a=>cases (show u=Value.ref a from r); rfl
 | ty n=>cases (show u=Value.type n from r); rfl
section
variable {P:Program}{w:World}{H H':Hp}{h h':Heap}{a C dx:Addr}{fs fs':List (Str×V)}
theorem y6 (hok:cj P w H h)(e:H a=some (.ins C dx fs)):∃ mA,np h a dx C mA/\(∀ f,fR (fs.lookup f) (mA f))/\PySem.Within mA (fs.map (·.1))/\fs.length<=1000/\H dx=some (.own a):=by
 obtain⟨d,z,ne,ob,mA,n,r,q⟩:=(show dL P w H h a (.ins C dx fs) from hok a _ e)
 exact⟨mA,⟨ob,n,ne⟩,r,q,z,d⟩
end
structure jZ (K:PySem.W.Frag) (C:Addr):Prop where
 pg:PySem.W.plainGet K C Str.empty=true
 hd:PySem.W.hasDictIn K C=true
 po:PySem.W.plainOver K C=true
 sa:PySem.W.findIn K (.ref C) "__setattr__" = some (some (.builtin "object.__setattr__"))
theorem jZ.get {K:PySem.W.Frag}{C:Addr}(c:jZ K C)(f:Str):PySem.W.plainGet K C f=true:=c.pg
def ko (K:PySem.W.Frag)(C:Addr)(f:Str):Prop:=PySem.W.findIn K (.ref C) f=some none
theorem ko.taker {K:PySem.W.Frag}{C:Addr}{f:Str}(n:ko K C f):PySem.W.takerIn K C f=some none:=by
 unfold PySem.W.takerIn
 rw[show PySem.W.findIn K (.ref C) f=some none from n]
 rfl
structure Con (K:PySem.W.Frag) (C:Addr) (f:Str) (v:V) (u:Value):Prop where
 at_:PySem.W.findIn K (.ref C) f=some (some u)
 rel:RelV v u
 get:PySem.W.specialIn K u "__get__" = some none
 cp:PySem.W.copiedNames.contains f=false
structure mG (K:PySem.W.Frag) (C:Addr) (m:Str) (f:Addr):Prop where
 at_:PySem.W.findIn K (.ref C) m=some (some (.ref f))
 fn:PySem.W.isFn K (.ref f)=true
 kp:PySem.W.keepIn K (.ref f)=true
section
variable {X:Cx}{pins:List (Addr×Obj)}{σ:St}{H:Hp}{s:Shared}{a C dx:Addr}{fs:List (Str×V)}{f:Str}{v:V}{A:Around}{E:Value->Shared->Prop}
theorem M5 {b:Bool}{Q:Value->Shared->Prop}(I:Inv X pins σ H s)(e:H a=some (.ins C dx fs))(c:jZ X.K C)(n:ko X.K C f)(l:fs.lookup f=some v)
  (h:∀ u s',Inv X pins σ H s'->RelV v u->Q u s'):wpAny (model X.prog X.w) A (getAttr (.ref a) f b) Q E s:=by
 obtain⟨mA,O,r,_,_,_⟩:=y6 I.hok e
 obtain⟨u,hu,ru⟩:=yh (v:=v) (o:=mA f) (by rw[<- l]; exact r f)
 exact M7 I.kIn O (c.get f) c.hd n hu (M4 ru) (h u _ (I.tok _) ru)
theorem Cm {m:Str}{g:Addr}{pl:Sem Bool}{Q:Value×List Value->Shared->Prop}(I:Inv X pins σ H s)(e:H a=some (.ins C dx fs))(c:jZ X.K C)(k:mG X.K C m g)(l:fs.lookup m=none)
  (h:Q (.ref g,[.ref a]) s):wpAny (model X.prog X.w) A (getMethod (.ref a) m pl) Q E s:=by
 obtain⟨mA,O,r,_,_,_⟩:=y6 I.hok e
 have hn:mA m=none:=Nv (by rw[<- l]; exact r m)
 exact M6 I.kIn O (c.get m) k.at_ k.fn hn h
theorem Hh {y:V}{u:Value}{Q:Unit->Shared->Prop}(I:Inv X pins σ H s)(e:H a=some (.ins C dx fs))(c:jZ X.K C)(n:ko X.K C f)(hl:fs.length < 1000)(ry:RelV y u)
  (h:∀ s',Inv X pins σ (upd H a (.ins C dx (dR f y fs))) s'->Q () s'):wpAny (model X.prog X.w) A (setAttr (.ref a) f u) Q E s:=by
 obtain⟨mA,O,r,wi,_,ho⟩:=y6 I.hok e
 have hz:(fs.map (·.1)).length<=sizeLine:=by rw[aI,fG]; omega
 refine Hi I.kIn O c.sa c.po n.taker c.hd wi hz λh' O' sb=>h _ ?_
 have hd:∃ o,h'.get? dx=some o:=let ⟨o,_,_,e',_⟩:=O'.ns; ⟨o,e'⟩
 refine I.write (x:=a) (e:=dx) (by rw[e]; exact True.intro) (.inr ho) (λb q hb z=>(sb.2 b hb).trans z) hd ?_
 refine⟨by rw[aj O.ne]; exact ho,?_,O.ne,O'.obj,_,O'.ns,λg=>?_,λg hg=>?_⟩
 ·have:=CS f y fs; omega
 ·show fR ((dR f y fs).lookup g) (if g=f then some u else mA g)
  rw[CM]
  by_cases q:g=f
  ·rw[aP q,aP q]; exact ry
  ·rw[aN q,aN q]; exact r g
 ·by_cases q:g=f
  ·rw[q]; exact(xz f y fs).1
  ·refine(xz f y fs).2 g (wi g λz=>hg ?_)
   show(if g=f then some u else mA g)=none
   rw[aN q]; exact z
theorem OV (I:Inv X pins σ H s):Inv X pins σ (upd (upd H s.heap.objs.size (.own (s.heap.objs.size + 1))) (s.heap.objs.size + 1) (.ins C s.heap.objs.size []))
  { s with heap:=(s.heap.push PySem.W.emptyDict).push (PySem.W.instObj C s.heap.objs.size) }:=by
 have e1:(s.heap.push PySem.W.emptyDict).get? s.heap.objs.size=some PySem.W.emptyDict:=fD s.heap rfl
 have e2:((s.heap.push PySem.W.emptyDict).push (PySem.W.instObj C s.heap.objs.size)).get? (s.heap.objs.size + 1)=some (PySem.W.instObj C s.heap.objs.size):=by
  have:=fD (s.heap.push PySem.W.emptyDict) (o:=PySem.W.instObj C s.heap.objs.size) rfl
  rwa [eL] at this
 have e3:(s.heap.push PySem.W.emptyDict).Ns s.heap.objs.size (λ_=>none):=⟨PySem.W.emptyDict,#[],_,e1,rfl,(λe he=>absurd he (by simp)),λ_=>rfl⟩
 have I1:=I.laid (a:=s.heap.objs.size) (o:=.own (s.heap.objs.size + 1)) (h':=s.heap.push PySem.W.emptyDict) (t':=s.toks) (λb u q=>bj _ q) (aY _) ⟨_,e1⟩
 refine I1.laid (a:=s.heap.objs.size + 1) (o:=.ins C s.heap.objs.size []) (t':=s.toks) (λb u q=>bj _ q) (Nat.le_of_eq (eL _ _)) ?_
 have ne:s.heap.objs.size≠s.heap.objs.size + 1:=cQ (nu _)
 refine⟨by rw[aj ne,aF],bX _,ne,e2,λ_=>none,(Heap.Ns1.of_empty e3).at λo q=>bj _ q,λ_=>True.intro,λy hy=>absurd rfl hy⟩
theorem NX {prog:Program}{w:World}{env:Env}{e:Expr}{f:Str}{pos:Pos}{s:Shared}{Q:Value->Shared->Prop}(hb:attributeBase e f env (eval e env)=eval e env)
  (h:wpAny (model prog w) A (eval e env) (λo s₁=>wpAny (model prog w) A (getAttr o f true) Q E s₁) E s):wpAny (model prog w) A (eval (.Attribute e f pos) env) Q E s :=
 Attribute_any_ h (by rw[arm_eval_Attribute,hb])
end
def G0 (K:PySem.W.Frag)(ta:TE)(f:Str):TE:=λσ H Q=>ta σ H λx H1=>pZ λa C dx fs v=>x=.ref a/\H1 a=some (.ins C dx fs)/\jZ K C/\ko K C f/\fs.lookup f=some v/\Q v H1
def Ig (K:PySem.W.Frag)(ta tv:TE)(f:Str):TS:=λD σ H=>tv σ H λy H1=>ta σ H1 λx H2=>∃ a C dx fs,x=.ref a/\H2 a=some (.ins C dx fs)/\jZ K C/\ko K C f/\fs.length < 1000 /\
 D.nx σ (upd H2 a (.ins C dx (dR f y fs)))
def Ez (X:Cx)(op:Operator)(rd:V->V->Hp->VK->Prop):Prop :=
 ∀(pins:List (Addr×Obj)) (s:Shared) (σ:St) (H:Hp) (x y:V) (u v:Value) (Q:VK),Inv X pins σ H s->RelV x u->RelV y v->rd x y H Q->wpAny (model X.prog X.w) X.A (inplaceOp op u v) (EP X pins σ Q) X.xe s
section
variable {X:Cx}{o e value:Expr}{f:Str}{pos pos' tpos:Pos}{ta tv:TE}
theorem dY (he:PE X e ta)(hb:attributeBase e f X.env (eval e X.env)=eval e X.env):PE X (.Attribute e f pos) (G0 X.K ta f):=by
 intro pins s σ H Q I h
 refine NX hb (aZ (he pins s σ H _ I h) λu s1 ⟨x,H1,I1,rx,a,C,dx,fs,v,ex,ea,c,n,l,q⟩=>?_)
 subst ex
 obtain rfl:u=Value.ref a:=rx
 exact M5 I1 ea c n l λu' s2 I2 ru=>⟨v,H1,I2,ru,q⟩
theorem xM (ha:PE X o ta)(hv:PE X value tv)(hs:swapsWith value (some (.Attribute o f pos')) pos.line X.env=pure false):PS X (.Assign [.Attribute o f pos'] value pos) (Ig X.K ta tv f):=by
 intro pins s σ H D I h
 refine plainObj_wpAny_Assign_Attribute (aZ (hv pins s σ H _ I h) λu s1 ⟨y,H1,I1,ry,q⟩=>aZ (ha pins s1 σ H1 _ I1 q) λov s2 ⟨x,H2,I2,rx,a,C,dx,fs,ex,ea,c,n,l,q2⟩=>?_) hs
 subst ex
 obtain rfl:ov=Value.ref a:=rx
 exact Hh I2 ea c n l ry λs3 I3=>⟨σ,_,I3,q2⟩
def Iq:V->V->Hp->VK->Prop:=λx y H Q=>∃ i j,x=.int i/\y=.int j/\Q (.int (i - j)) H
theorem Lo:Ez X .Sub Iq:=by
 rintro pins s σ H x y u v Q I rx ry ⟨i,j,rfl,rfl,q⟩
 obtain⟨t,rfl⟩:=(show ∃ t,u=Value.int i t from rx)
 obtain⟨t',rfl⟩:=(show ∃ t',v=Value.int j t' from ry)
 exact PyProof.Rows.isub_int ⟨.int (i - j),H,I.tok _,⟨_,rfl⟩,q⟩
end
section
variable {X:Cx}{pins:List (Addr×Obj)}{σ:St}{H:Hp}{s:Shared}{A:Around}{E:Value->Shared->Prop}{Q:Value->Shared->Prop}{c:Value}{b:Bool}
inductive jR (K:PySem.W.Frag) (H:Hp):V->Value->Prop where
 | non:jR K H .non (.type "NoneType")
 | bl (x:Bool):jR K H (.bl x) (.type "bool")
 | int (i:Int):jR K H (.int i) (.type "int")
 | str (x:Str):jR K H (.str x) (.type "str")
 | flt (x:UInt64):jR K H (.flt x) (.type "float")
 | lst {a:Addr} {xs:List V} (e:H a=some (.lst xs)):jR K H (.ref a) (.type "list")
 | frz {a:Addr} {o:Obj} {xs:List V} (e:H a=some (.frz o (.lst xs))):jR K H (.ref a) (.type "list")
 | tup {a:Addr} {xs:List V} (e:H a=some (.tup xs)):jR K H (.ref a) (.type "tuple")
 | dK {a:Addr} {kvs:List (aQ×V)} (e:H a=some (.dK kvs)):jR K H (.ref a) (.type "dict")
 | dT {a:Addr} {kvs:List (List aQ×V)} (e:H a=some (.dT kvs)):jR K H (.ref a) (.type "dict")
 | ins {a C dx:Addr} {fs:List (Str×V)} (e:H a=some (.ins C dx fs)) (cl:jZ K C) (ha:PySem.W.findIn K (.ref C) "__class__" = some (some (.builtin "object.__class__")))
   (hn:PySem.W.specialIn K (.builtin "object.__class__") "__get__" = some (some (.builtin "getset_descriptor.__get__"))) (htk:PySem.W.takesIn K (.builtin "object.__class__")=some true)
   (hm:PySem.W.mroIn K C (.type "object")=some true):jR K H (.ref a) (.ref C)
end
structure dJ (k:Nat) (A:Around):Prop where
 hd:A.handled=none
 dp:A.depth + 3 * k + 5 < recursionLimit
 un:A.units + 16 * k + 200 < cLine
theorem dJ.mono {j k:Nat}{A:Around}(r:dJ k A)(h:j<=k):dJ j A:=⟨r.hd,by have:=r.dp; omega,by have:=r.un; omega⟩
theorem dJ.deeper {k:Nat}{A:Around}(r:dJ (k + 1) A)(env:Env):dJ k (A.deeper env) :=
 ⟨r.hd,by have:=r.dp; show A.depth + 1 + 3 * k + 5 < _; omega,by have:=r.un; show A.units + 3 + 16 * k + 200 < _; omega⟩
theorem LD {A:Around}{C:Addr}{us:List Value}{kw:List (Str×Value)}:(A.under (.builtin "type.__call__" ⟨.ref C :: us,kw⟩)).depth=A.depth + 1:=by
 first | rfl | simp[Around.under,Code.weight,Code.isCreation,Code.isGuard,Code.isCaller,Code.frames,Code.isFrame,guardIds]
theorem LB {A:Around}{C:Addr}{us:List Value}{kw:List (Str×Value)}:(A.under (.builtin "type.__call__" ⟨.ref C :: us,kw⟩)).units=A.units + 1:=by
 first | rfl | simp[Around.under,Code.cUnits,Code.frames,Code.isFrame]
theorem dJ.make {k:Nat}{A:Around}(r:dJ (k + 1) A)(C:Addr)(us:List Value)(kw:List (Str×Value)):dJ k (A.under (.builtin "type.__call__" ⟨.ref C :: us,kw⟩)) :=
 ⟨r.hd,by have:=r.dp; rw[LD]; omega,by have:=r.un; rw[LB]; omega⟩
theorem dJ.depth {k:Nat}{A:Around}(r:dJ k A):A.depth < recursionLimit:=by have:=r.dp; omega
theorem dJ.units {k:Nat}{A:Around}(r:dJ k A):A.units + 64 < cLine:=by have:=r.un; omega
theorem dJ.units0 {k:Nat}{A:Around}(r:dJ k A):A.units < cLine:=by have:=r.un; omega
def jC:TA:=λ_ H Q=>Q [] H
def h8 (ta:TE)(tr:TA):TA:=λσ H Q=>ta σ H λx H1=>tr σ H1 λxs H2=>Q (x :: xs) H2
section
variable {X:Cx}{e:Expr}{es:List Expr}{te:TE}{t:TA}{pos:Pos}
theorem aC:PA X [] jC:=λ_ _ _ _ H Q I h=>Calls.spliced_nil ⟨[],H,I,.nil,h⟩
theorem aA (ha:PE X e te)(hr:PA X es t)(hs:starEach (e :: es) X.env=(false,eval e X.env) :: starEach es X.env:=by rfl):PA X (e :: es) (h8 te t):=by
 intro pos pins s σ H Q I h
 rw[hs]
 show wpAny _ _ (spliced ((false,eval e X.env) :: backTo pos (starEach es X.env))) _ _ s
 refine Calls.spliced_cons (aZ (ha pins s σ H _ I h) λu s1 ⟨x,H1,I1,r1,q1⟩=>?_)
 exact aZ (hr pos pins s1 σ H1 _ I1 q1) λus s2 ⟨xs,H2,I2,r2,q2⟩=>⟨x :: xs,H2,I2,.cons r1 r2,q2⟩
def zd (t:TA):TE:=λσ H Q=>t σ H λxs H1=>xs.length<=sizeLine/\∀ p,H1 p=none->Q (.ref p) (upd H1 p (.tup xs))
def wn (t:TA):TE:=λσ H Q=>t σ H λxs H1=>xs.length<=sizeLine/\∀ p,H1 p=none->Q (.ref p) (upd H1 p (.lst xs))
theorem dO {x1}(h:PA X es t):PE X (.Tuple es x1 pos) (zd t):=by
 intro pins s σ H Q I hq
 refine wpAny_Tuple_spliced (aZ (h pos pins s σ H _ I hq) λus s1 ⟨xs,H1,I1,r,z,q⟩=>⟨by rw[<- r.length]; exact z,?_⟩)
 have hf:H1 s1.heap.objs.size=none:=I1.hok.fresh (aY _)
 refine⟨.ref s1.heap.objs.size,upd H1 s1.heap.objs.size (.tup xs),I1.laid (t':=s1.toks) (λb u e=>bj _ e) (aY _) ?_,rfl,q _ hf⟩
 exact⟨z,us,r,⟨_,fD _ rfl,rfl,_,rfl⟩⟩
theorem cT (h:PA X es t):PE X (.List es pos) (wn t):=by
 intro pins s σ H Q I hq
 refine wpAny_List_spliced (aZ (h pos pins s σ H _ I hq) λus s1 ⟨xs,H1,I1,r,z,q⟩=>⟨by rw[<- r.length]; exact z,?_⟩)
 have hf:H1 s1.heap.objs.size=none:=I1.hok.fresh (aY _)
 refine⟨.ref s1.heap.objs.size,upd H1 s1.heap.objs.size (.lst xs),I1.laid (t':=s1.toks) (λb u e=>bj _ e) (aY _) ?_,rfl,q _ hf⟩
 exact⟨z,us,0,r,fD _ rfl⟩
end
abbrev Sp:=List V->Hp->VK->XK->Prop
abbrev gz:=List Env->Hp->Shared->XK->Value->Shared->Prop
structure o7 (P:Program) (w:World) (K:PySem.W.Frag) (mg:Str->Option Value) (base:Heap) (A:Around) (outer:List Env) (s:Shared) (H:Hp):Prop where
 frames:A.frames=some outer
 mod:Mod K mg base
 bs:∀ b o,base.get? b=some o->s.heap.get? b=some o/\H b=none
 bsz:base.objs.size<=s.heap.objs.size
 funs:s.heap.FunFrames base outer
 frf:∀ b∈iE outer,H b=none
 hok:cj P w H s.heap
 bare:AllBare s.gens
def CE (outer:List Env)(P:Program)(w:World)(H:Hp)(s:Shared)(Q:VK)(u:Value)(s':Shared):Prop :=
 ∃ v H',s'.os=s.os/\AllBare s'.gens/\Un (iE outer) [] H H' s.heap s'.heap/\cj P w H' s'.heap/\RelV v u/\Q v H'
def CR (CX:gz)(outer:List Env)(P:Program)(w:World)(H:Hp)(s:Shared)(Q:VK)(E:XK)(r:Result)(s':Shared):Prop :=
 match r with
 | .ok (.ret u)=>CE outer P w H s Q u s'
 | .ok _=>False
 | .error e=>CX outer H s E e s'
structure aG (P:Program) (w:World) (K:PySem.W.Frag) (mg:Str->Option Value) (base:Heap) (CX:gz) (k:Nat) (f:Addr) (fd:FuncData) (ps:List Str) (sp:Sp):Prop where
 len:∀ vs H Q E,sp vs H Q E->vs.length=ps.length
 run:∀(A:Around) (outer:List Env) (s:Shared) (H:Hp) (args:Args) (us:List Value) (vs:List V) (Q:VK) (E:XK),dJ k A->o7 P w K mg base A outer s H->BindsTo s fd args (ps.zip us)->ai vs us->sp vs H Q E ->
  codeAny (model P w) A (.call (.ref f) args) (CR CX outer P w H s Q E) s
theorem o7.make {P:Program}{w:World}{K:PySem.W.Frag}{mg:Str->Option Value}{base:Heap}{A:Around}{outer:List Env}{s:Shared}{H:Hp}(e:o7 P w K mg base A outer s H)(C:Addr)(us:List Value)(kw:List (Str×Value)) :
  o7 P w K mg base (A.under (.builtin "type.__call__" ⟨.ref C :: us,kw⟩)) outer s H:=⟨by first | exact e.frames | (simpa [Around.under,Code.envs,Code.isFrame,pushEnvs] using e.frames),e.mod,e.bs,e.bsz,e.funs,e.frf,e.hok,e.bare⟩
section
variable {X:Cx}{pins:List (Addr×Obj)}{σ:St}{H:Hp}{s s':Shared}
theorem Inv.env0 (I:Inv X pins σ H s):o7 X.prog X.w X.K X.mg X.base X.A X.stack s H :=
 ⟨I.ok.frames,I.ok.mod,I.bs,b8 I.ok.bsz I.sz,I.stack,I.stkFree,I.hok,I.bare⟩
theorem Inv.after {Q:VK}{u:Value}(I:Inv X pins σ H s)(h:CE X.stack X.prog X.w H s Q u s'):EP X pins σ Q u s':=by
 obtain⟨v,H',os,bare,un,hok,r,q⟩:=h
 obtain⟨hh,g,d,t,os'⟩:=s'
 obtain rfl:os'=s.os:=os
 exact⟨v,H',I.call (h':=hh) (g':=g) (d':=d) (t':=t) (ch:=[]) un hok bare (λb z=>absurd z (by simp)),r,q⟩
end
def qI (sp:Sp)(dvs:List V)(E:XK)(t:TA):TE:=λσ H Q=>t σ H λvs H1=>sp (vs ++ dvs) H1 Q E
def wm (C:Addr)(m:Str)(sp:Sp)(dvs:List V)(E:XK)(ta:TE)(t:TA):TE:=λσ H Q=>ta σ H λx H1=>ig λa dx fs=>x=.ref a/\H1 a=some (.ins C dx fs)/\fs.lookup m=none /\
 t σ H1 λvs H2=>sp (x :: (vs ++ dvs)) H2 Q E
def Fw (C:Addr)(sp:Sp)(dvs:List V)(E:XK)(t:TA):TE:=λσ H Q=>t σ H λvs H1=>∀ x dx,H1 x=none->H1 dx=none->dx≠x ->
 sp (.ref x :: (vs ++ dvs)) (upd (upd H1 dx (.own x)) x (.ins C dx [])) (λv H2=>v=.non/\Q (.ref x) H2) E
def Binds (K:PySem.W.Frag)(fd:FuncData)(ps:List Str)(ds:List Value):Prop :=
 ∀(s:Shared) (us:List Value),K.In s.heap->(us ++ ds).length=ps.length->BindsTo s fd ⟨us,[]⟩ (ps.zip (us ++ ds))
theorem Binds.all {K:PySem.W.Frag}{fd:FuncData}{ps:List Str}(h:∀ us:List Value,us.length=ps.length->bindArgs fd ⟨us,[]⟩=pure (ps.zip us)):Binds K fd ps []:=λs us _ hl=>by
 rw[gX] at hl ⊢
 exact .of_eq (h us hl)
def mF (CX:gz)(X:Cx)(E:XK):Prop:=∀(pins:List (Addr×Obj)) (σ:St) (H:Hp) (s:Shared) (e:Value) (s':Shared),Inv X pins σ H s->CX X.stack H s E e s'->X.xe e s'
section
variable {X:Cx}{CX:gz}{k:Nat}{f C:Addr}{fd:FuncData}{ps:List Str}{sp:Sp}{dvs:List V}{ds:List Value}{E:XK}{x m:Str}{p pos apos:Pos}{e o:Expr}{es:List Expr}{ta:TE}{t:TA}
theorem xC {pins:List (Addr×Obj)}{σ:St}{H:Hp}{s:Shared}{Q:VK}{us:List Value}{vs:List V}(F:aG X.prog X.w X.K X.mg X.base CX k f fd ps sp)(hr:dJ k X.A)(hb:Binds X.K fd ps ds)(hd:ai dvs ds)(hx:mF CX X E)
  (I:Inv X pins σ H s) (r:ai vs us) (h:sp (vs ++ dvs) H Q E):wpAny (model X.prog X.w) X.A (call (.ref f) us) (EP X pins σ Q) X.xe s:=by
 have r2:ai (vs ++ dvs) (us ++ ds):=r.append hd
 have hl:(us ++ ds).length=ps.length:=by rw[<- r2.length]; exact F.len _ _ _ _ h
 refine wpAny_call (codeAny_mono (F.run X.A X.stack s H ⟨us,[]⟩ (us ++ ds) (vs ++ dvs) Q E hr I.env0 (hb s us I.kIn hl) r2 h) λr s' hq=>?_)
 cases r with
 | error e=>exact hx pins σ H s e s' I hq
 | ok fl =>
  cases fl with
  | ret u=>exact I.after hq
  | next=>exact False.elim hq
  | brk=>exact False.elim hq
  | cont=>exact False.elim hq
theorem JO (F:aG X.prog X.w X.K X.mg X.base CX k f fd ps sp)(hr:dJ k X.A)(hg:Gl X x)(hm:X.mg x=some (.ref f))(hk:PySem.W.keepIn X.K (.ref f)=true)(hb:Binds X.K fd ps ds)(hd:ai dvs ds)(hx:mF CX X E)
  (ha:PA X (e :: es) t) (hdb:(x == ("__debug__" : Str))=false:=by decide) (he:starEach (e :: es) X.env=(false,eval e X.env) :: starEach es X.env:=by rfl) (hpl:(backTo pos (starEach es X.env)).any (·.1)=false:=by rfl) :
  PE X (.Call (.Name x p) (e :: es) [] pos) (qI sp dvs E t):=by
 intro pins s σ H Q I h
 refine tT (xx I hg hm ?_ hdb)
 refine PySem.W.callWith_K (h₀:=X.base) I.ok.mod.kin hk (aZ (ha pos pins s σ H _ I h) λus s1 ⟨vs,H1,I1,r,q⟩=>⟨I1.kIn,?_⟩) he hpl
 exact xC F hr hb hd hx I1 r q
theorem iA {pl:Sem Bool}(he:PE X o ta)(c:jZ X.K C)(hm:mG X.K C m f)(F:aG X.prog X.w X.K X.mg X.base CX k f fd ps sp)(hr:dJ k X.A)(hb:Binds X.K fd ps ds)(hd:ai dvs ds)(hx:mF CX X E)(ha:PA X (e :: es) t)
  (hst:starEach (e :: es) X.env=(false,eval e X.env) :: starEach es X.env:=by rfl) (hpl:(backTo pos (starEach es X.env)).any (·.1)=false:=by rfl)
  (ht:eval (.Call (.Attribute o m apos) (e :: es) [] pos) X.env=(do
   let ov <- eval o X.env
   standAt apos.atName
   let (f,first) <- holding [ov] (getMethod ov m pl)
   callWith pos f first (backTo pos (starEach (e :: es) X.env)) (backToKw pos (keywordEach [] X.env))):=by rfl) :
  PE X (.Call (.Attribute o m apos) (e :: es) [] pos) (wm C m sp dvs E ta t):=by
 intro pins s σ H Q I h
 refine PySem.W.methodCall_KW (pl:=pl) (aZ (he pins s σ H _ I h) λu s1 ⟨x,H1,I1,rx,a,dx,fs,ex,ea,l,q⟩=>?_) ht
 subst ex
 obtain rfl:u=Value.ref a:=rx
 refine Cm I1 ea c hm l ?_
 refine PySem.W.callWith_K (first:=[.ref a]) (h₀:=X.base) I.ok.mod.kin hm.kp (aZ (ha pos pins s1 σ H1 _ I1 q) λus s2 ⟨vs,H2,I2,r,q2⟩=>⟨I2.kIn,?_⟩) hst hpl
 exact xC (us:=.ref a :: us) (vs:=.ref a :: vs) F hr hb hd hx I2 (.cons rfl r) q2
theorem JM {pl:Sem Bool}(he:PE X o ta)(c:jZ X.K C)(hm:mG X.K C m f)(F:aG X.prog X.w X.K X.mg X.base CX k f fd ps sp)(hr:dJ k X.A)(hb:Binds X.K fd ps ds)(hd:ai dvs ds)(hx:mF CX X E)
  (ht:eval (.Call (.Attribute o m apos) [] [] pos) X.env=(do
   let ov <- eval o X.env
   standAt apos.atName
   let (f,first) <- holding [ov] (getMethod ov m pl)
   callWith pos f first (backTo pos (starEach [] X.env)) (backToKw pos (keywordEach [] X.env))):=by rfl) :
  PE X (.Call (.Attribute o m apos) [] [] pos) (wm C m sp dvs E ta jC):=by
 intro pins s σ H Q I h
 refine PySem.W.methodCall_KW (pl:=pl) (aZ (he pins s σ H _ I h) λu s1 ⟨x,H1,I1,rx,a,dx,fs,ex,ea,l,q⟩=>?_) ht
 subst ex
 obtain rfl:u=Value.ref a:=rx
 refine Cm I1 ea c hm l ?_
 exact PySem.W.callWith_K0 (first:=[.ref a]) I1.kIn hm.kp (xC (us:=[.ref a]) (vs:=[.ref a]) F hr hb hd hx I1 (.cons rfl .nil) q)
structure Mk (K:PySem.W.Frag) (C f:Addr):Prop where
 makes:PySem.W.makesIn K C=true
 init:PySem.W.findIn K (.ref C) "__init__" = some (some (.ref f))
 fn:PySem.W.isFn K (.ref f)=true
 kp:PySem.W.keepIn K (.ref C)=true
theorem Io {pins:List (Addr×Obj)}{σ:St}{H:Hp}{s:Shared}{Q:VK}{us:List Value}{vs:List V}(M:Mk X.K C f)(F:aG X.prog X.w X.K X.mg X.base CX k f fd ps sp)(hr:dJ (k + 1) X.A)(hb:Binds X.K fd ps ds)(hd:ai dvs ds)
  (hx:mF CX X E) (I:Inv X pins σ H s) (r:ai vs us)
  (h:∀ x dx,H x=none->H dx=none->dx≠x->sp (.ref x :: (vs ++ dvs)) (upd (upd H dx (.own x)) x (.ins C dx [])) (λv H2=>v=.non/\Q (.ref x) H2) E) :
  wpAny (model X.prog X.w) X.A (call (.ref C) us) (EP X pins σ Q) X.xe s:=by
 have hq:=h (s.heap.objs.size + 1) s.heap.objs.size (I.hok.fresh (gB _)) (I.hok.fresh (aY _)) (cQ (nu _))
 have I2:=OV (C:=C) I
 have r2:ai (V.ref (s.heap.objs.size + 1) :: (vs ++ dvs)) (Value.ref (s.heap.objs.size + 1) :: (us ++ ds)):=.cons rfl (r.append hd)
 have hl:(Value.ref (s.heap.objs.size + 1) :: us ++ ds).length=ps.length:=by
  have e:=r2.length
  rw[F.len _ _ _ _ hq] at e
  exact e.symm
 refine wpAny_call (LC (f:=f) I.kIn M.makes M.init (beq_iff_eq.mp M.fn) (codeAny_mono (F.run _ X.stack _ _ ⟨Value.ref (s.heap.objs.size + 1) :: us,[]⟩ (Value.ref (s.heap.objs.size + 1) :: (us ++ ds)) _ _ E (hr.make C us [])
  (I2.env0.make C us []) (hb _ (Value.ref (s.heap.objs.size + 1) :: us) I2.kIn hl) r2 hq) λr s' hq'=>?_))
 cases r with
 | error e=>exact hx pins σ _ _ e s' I2 hq'
 | ok fl =>
  cases fl with
  | ret u =>
   obtain⟨v,H',I3,rv,ev,q3⟩:=I2.after hq'
   subst ev
   exact⟨rv,⟨V.ref (s.heap.objs.size + 1),H',I3,rfl,q3⟩⟩
  | next=>exact False.elim hq'
  | brk=>exact False.elim hq'
  | cont=>exact False.elim hq'
theorem JN (M:Mk X.K C f)(F:aG X.prog X.w X.K X.mg X.base CX k f fd ps sp)(hr:dJ (k + 1) X.A)(hg:Gl X x)(hm:X.mg x=some (.ref C))(hb:Binds X.K fd ps ds)(hd:ai dvs ds)(hx:mF CX X E)
  (ha:PA X (e :: es) t) (hdb:(x == ("__debug__" : Str))=false:=by decide) (he:starEach (e :: es) X.env=(false,eval e X.env) :: starEach es X.env:=by rfl) (hpl:(backTo pos (starEach es X.env)).any (·.1)=false:=by rfl) :
  PE X (.Call (.Name x p) (e :: es) [] pos) (Fw C sp dvs E t):=by
 intro pins s σ H Q I h
 refine tT (xx I hg hm ?_ hdb)
 refine PySem.W.callWith_K (h₀:=X.base) I.ok.mod.kin M.kp (aZ (ha pos pins s σ H _ I h) λus s1 ⟨vs,H1,I1,r,q⟩=>⟨I1.kIn,?_⟩) he hpl
 exact Io M F hr hb hd hx I1 r q
end
section
variable {X:Cx}{CX:gz}{k:Nat}{f C:Addr}{fd:FuncData}{ps ks:List Str}{sp:Sp}{E:XK}{x m:Str}{p pos apos kpos:Pos}{e o:Expr}{es:List Expr}{kws:List Keyword}{te ta:TE}{t tk:TA}{nm:Option Str}
structure Oh (K:PySem.W.Frag) (fd:FuncData) (ps ks:List Str) (g:List Value->List Value->List Value) (gV:List V->List V->List V):Prop where
 to:∀(s:Shared) (us ws:List Value),K.In s.heap->(g us ws).length=ps.length->BindsTo s fd ⟨us,ks.zip ws⟩ (ps.zip (g us ws))
 rel:∀{vs:List V} {us:List Value} {zs:List V} {ws:List Value},ai vs us->ai zs ws->ai (gV vs zs) (g us ws)
variable {g:List Value->List Value->List Value}{gV:List V->List V->List V}
end
structure FnScope (N P:List Str) (sc:Scope):Prop where
 kind:sc.kind=.function:=by rfl
 co:sc.isCoroutine=false:=by rfl
 gen:sc.isGenerator=false:=by rfl
 nd:N.Nodup:=by trivial
 pre:N.take P.length=P:=by rfl
 par:∀ x∈P,sc.names.lookup x=some .local∨sc.names.lookup x=some .cell:=by trivial
 nofree:∀ y∈sc.names,y.2≠.free:=by trivial
theorem EB {kindOf:Str->Option NameKind}{x:Str}:∀{binds:List (Str×Value)}{m:Str->Option Value},(∀ v,(x,v)∉binds)->bindL kindOf binds m x=m x
 | [],_,_=>rfl
 | (n,v) :: r,m,h=>by
  unfold bindL
  rw[EB λw hw=>h w (dy _ hw)]
  split
  ·have:x≠n:=by rintro rfl; exact h v eJ
   simp[this]
  ·rfl
theorem ED {kindOf:Str->Option NameKind}{x:Str}:∀{binds:List (Str×Value)}{m:Str->Option Value},(∀ v,(x,v)∉binds)->bindC kindOf binds m x=m x
 | [],_,_=>rfl
 | (n,v) :: r,m,h=>by
  unfold bindC
  rw[ED λw hw=>h w (dy _ hw)]
  split
  ·rfl
  ·have:x≠n:=by rintro rfl; exact h v eJ
   simp[this]
theorem EC {kindOf:Str->Option NameKind}{x:Str}{v:Value}:∀{P:List Str}{vs:List Value}{i:Nat}{m:Str->Option Value},P.Nodup->P[i]? = some x->vs[i]? = some v->kindOf x=some .local ->
  bindL kindOf (P.zip vs) m x=some v
 | [],_,_,_,_,h,_,_=>by simp at h
 | _ :: _,[],_,_,_,_,h,_=>by simp at h
 | p :: P,w :: vs,0,m,nd,h1,h2,hk=>by
  simp at h1 h2; subst h1; subst h2
  show bindL kindOf ((p,w) :: P.zip vs) m p=_
  unfold bindL
  rw[EB λv hv=>(List.nodup_cons.mp nd).1 (List.of_mem_zip hv).1,aP hk]
  simp
 | p :: P,w :: vs,i + 1,m,nd,h1,h2,hk=>by
  show bindL kindOf ((p,w) :: P.zip vs) m x=_
  unfold bindL
  exact EC (i:=i) (List.nodup_cons.mp nd).2 (by simpa using h1) (by simpa using h2) hk
theorem EE {kindOf:Str->Option NameKind}{x:Str}{v:Value}:∀{P:List Str}{vs:List Value}{i:Nat}{m:Str->Option Value},P.Nodup->P[i]? = some x->vs[i]? = some v->kindOf x≠some .local ->
  bindC kindOf (P.zip vs) m x=some v
 | [],_,_,_,_,h,_,_=>by simp at h
 | _ :: _,[],_,_,_,_,h,_=>by simp at h
 | p :: P,w :: vs,0,m,nd,h1,h2,hk=>by
  simp at h1 h2; subst h1; subst h2
  show bindC kindOf ((p,w) :: P.zip vs) m p=_
  unfold bindC
  rw[ED λv hv=>(List.nodup_cons.mp nd).1 (List.of_mem_zip hv).1,aN hk]
  simp
 | p :: P,w :: vs,i + 1,m,nd,h1,h2,hk=>by
  show bindC kindOf ((p,w) :: P.zip vs) m x=_
  unfold bindC
  exact EE (i:=i) (List.nodup_cons.mp nd).2 (by simpa using h1) (by simpa using h2) hk
def start (N:List Str)(vs:List V):St:=vs.map some ++ List.replicate (N.length - vs.length) none
def jO (CX:gz)(P:Program)(w:World)(K:PySem.W.Frag)(mg:Str->Option Value)(base:Heap)(N:List Str)(qual:Str)(scope:Scope)(f:Addr)(cd:Value)(A:Around)(outer:List Env)(s:Shared)(H:Hp)(E:XK):Cx where
 prog:=P
 w:=w
 K:=K
 mg:=mg
 base:=base
 A:=A.deeper (envOfC qual scope s.heap.objs.size f cd)
 N:=N
 s₀:=s
 H₀:=H
 env:=envOfC qual scope s.heap.objs.size f cd
 outer:=outer
 stack:=envOfC qual scope s.heap.objs.size f cd :: outer
 ex:=[]
 calm:=true
 fn:=λ_=>true
 pn:=[]
 xe:=λe s'=>wpAny (model P w) (A.deeper (envOfC qual scope s.heap.objs.size f cd)) (leaving (envOfC qual scope s.heap.objs.size f cd) e) (λ_ s''=>CX outer H s E e s'') (λe' s''=>CX outer H s E e' s'') s'
theorem E1 {sc:Scope}{n:Nat}{x:Str}(h:sc.names.lookup x=some .cell):∃ c,(cellsFrom n sc.names []).lookup x=some c:=by
 have q:=PySem.W.cellsFrom_some sc.names n [] (.inl h)
 exact tF.mp q
theorem Li {CX:gz}{P:Program}{w:World}{K:PySem.W.Frag}{mg:Str->Option Value}{base:Heap}{N ps:List Str}{qual:Str}{scope:Scope}{f:Addr}{cd:Value}{A:Around}{outer:List Env}{s s1:Shared}{H:Hp}{E:XK}{us:List Value}{vs:List V}
  (S:FnScope N ps scope) (hd:A.handled=none) (e0:o7 P w K mg base A outer s H) (hl:vs.length=ps.length) (r:ai vs us)
  (x:InCallC s s.heap.objs.size (bindL (envOfC qual scope s.heap.objs.size f cd).kindOf (ps.zip us) λ_=>none) (cellsFrom (s.heap.objs.size + 1) scope.names []) (bindC (envOfC qual scope s.heap.objs.size f cd).kindOf (ps.zip us) λ_=>none) s1) :
  Inv (jO CX P w K mg base N qual scope f cd A outer s H E) [] (start N vs) H s1:=by
 have hpl:ps.length<=N.length:=by have:=iY List.length S.pre; rw[cZ] at this; omega
 obtain⟨h1,tk,rfl,hk⟩:=x.done
 have noA:∀ b:Addr,b∉(jO CX P w K mg base N qual scope f cd A outer s H E).ex:=λb z=>absurd (show b∈([]:List Addr) from z) (by simp)
 refine⟨⟨e0.mod,S.kind,rfl,rfl,aY _,λy z c h1 h2=>?_,λy hy=>?_,λy c _ h=>?_,λ_=>hd,Around.frames_deeper e0.frames,.inr ⟨rfl,rfl⟩,λb z=>absurd z (noA b),e0.bs,e0.bsz,λb _ _=>noA b,λb z=>absurd z (noA b),e0.funs,e0.frf⟩,
  rfl,e0.bare,Un.kept hk,⟨_,x.toInCall.ns,λi y v h1 h2 h3=>?_⟩,λy c h=>⟨_,x.cell y c h⟩,e0.hok.fresh (aY _),λy c h=>?_,λp hp=>absurd (show p∈([]:List (Addr×Obj)) from hp) (by simp),e0.hok.kept hk,?_⟩
 ·exact name_of_addr x.apart (rj h1) (rj h2)
 ·have hy:scope.names.lookup y=some .cell∨scope.names.lookup y=some .free:=hy
  rcases hy with hy | hy
  ·exact E1 hy
  ·exact absurd rfl (S.nofree _ (rj hy))
 ·exact Nat.le_of_lt (x.above y c (rj h))
 ·have hi:i < vs.length:=by
   unfold start at h2
   by_cases hi:i < vs.length
   ·exact hi
   ·rw[ku (by simpa using hi)] at h2
    rw[List.getElem?_replicate] at h2
    split at h2 <;> cases h2
  have ha:vs[i]? = some v:=by
   unfold start at h2
   rw[ky (by simpa using hi),ar] at h2
   cases e:vs[i]? with
   | none=>rw[e] at h2; cases h2
   | some a=>rw[e] at h2; cases h2; rfl
  obtain⟨u,hu,rv⟩:=r.get ha
  have hp:ps[i]? = some y:=by
   rw[<- S.pre,List.getElem?_take_of_lt (by omega)]; exact h1
  have ndP:ps.Nodup:=by rw[<- S.pre]; exact S.nd.sublist (List.take_sublist _ _)
  refine⟨u,rv,?_⟩
  rcases S.par y (bI hp) with k | k
  ·exact .inl ⟨k,EC ndP hp hu k⟩
  ·obtain⟨c,e⟩:=E1 (n:=s.heap.objs.size + 1) k
   refine .inr ⟨.inl k,c,e,?_⟩
   have q:=x.cell y c e
   rw[EE ndP hp hu (by show scope.names.lookup y≠_; rw[k]; decide)] at q
   exact q
 ·exact e0.hok.fresh (Nat.le_of_lt (x.above y c (rj h)))
 ·unfold start
  show _=N.length
  rw[cR,aI,List.length_replicate]
  omega
theorem ME {CX:gz}{P:Program}{w:World}{K:PySem.W.Frag}{mg:Str->Option Value}{base:Heap}{k:Nat}{f:Addr}{name qual:Str}{params:Arguments}{body:List Stmt}{scope:Scope}{dV kV doc pm cdv ct oc:Value}{an od:Option Addr}
  {osl:Array (Option Value)} {N ps:List Str} {sp:Sp} (lk:K.lookup f=some ⟨oc,od,.func (PySem.W.fnOf name qual params body scope dV kV doc pm an cdv ct),osl⟩) (hcd:PySem.W.codeIn K cdv qual=true) (S:FnScope N ps scope)
  (len:∀ vs H Q E,sp vs H Q E->vs.length=ps.length)
  (hbody:∀(A:Around) (outer:List Env) (s:Shared) (H:Hp) (vs:List V) (Q:VK) (E:XK),dJ k (A.deeper (envOfC qual scope s.heap.objs.size f cdv))->sp vs H Q E ->
   ∃ t,iZ (jO CX P w K mg base N qual scope f cdv A outer s H E) body t/\t { nx:=λ_ H'=>Q .non H',rt:=Q } (start N vs) H) :
  aG P w K mg base CX (k + 1) f (PySem.W.fnOf name qual params body scope dV kV doc pm an cdv ct) ps sp:=by
 refine⟨len,λA outer s H args us vs Q E hr e0 hb r hsp=>?_⟩
 have hl:=len _ _ _ _ hsp
 have KX:K.In s.heap:=e0.mod.kin.keeps λb o e=>(e0.bs b o e).1
 have lim:s.heap.NoLimit:=e0.mod.nolimit.keeps λb o e=>(e0.bs b o e).1
 have hkind:∀ y∈ps.zip us,scope.names.lookup y.1=some .local∨(scope.names.lookup y.1=some .cell/\((cellsFrom (s.heap.objs.size + 1) scope.names []).lookup y.1).isSome=true):=λ⟨n,v⟩ hy=>by
  rcases S.par n (List.of_mem_zip hy).1 with q | q
  ·exact .inl q
  ·exact .inr ⟨q,PySem.W.cellsFrom_some _ _ _ (.inl q)⟩
 refine codeAny_call_function hr.depth (KX _ _ lk) rfl S.co S.gen rfl (PySem.W.codeRec_of KX hcd) (hb _ _ _ _ ?_)
 refine wpAny_newFunctionEnv_cells S.kind hkind λenv he s1 x=>?_
 subst he
 refine⟨lim.keeps x.toInCall.keep,codeAny_func ?_⟩
 obtain⟨t,ht,hq⟩:=hbody A outer s H vs Q E (hr.deeper _) hsp
 have I:Inv (jO CX P w K mg base N qual scope f cdv A outer s H E) [] (start N vs) H s1:=Li S hr.hd e0 hl r x
 refine fY (ht [] s1 (start N vs) H _ I hq) (λfl s' hs=>?_) λe s' hs=>hs
 have fin:∀{σ':St} {H':Hp} {v:V} {u:Value},Inv (jO CX P w K mg base N qual scope f cdv A outer s H E) [] σ' H' s'->RelV v u->Q v H'->CE outer P w H s Q u s' :=
  λ{σ' H' v u} J rv q=>⟨v,H',J.os,J.bare,J.base,J.hok,rv,q⟩
 cases fl with
 | ret u =>
  obtain⟨v,σ',H',J,rv,q⟩:=hs
  exact fin J rv q
 | next =>
  obtain⟨σ',H',J,q⟩:=hs
  exact fin (v:=V.non) (u:=Value.none) J rfl q
 | brk =>
  obtain⟨_,_,_,q⟩:=hs
  exact False.elim q
 | cont =>
  obtain⟨_,_,_,q⟩:=hs
  exact False.elim q
section
variable {X:Cx}{x:Str}{p pos:Pos}{e:Expr}{es:List Expr}{t:TA}{id T:String}{r:List V->Hp->VK->Prop}
def tCB (r:List V->Hp->VK->Prop)(t:TA):TE:=λσ H Q=>t σ H λvs H1=>r vs H1 Q
theorem bC (hc:gZ X (.builtin id) r) (hg:Gl X x) (hm:X.mg x=none) (hv:bootBuiltins x=some (.builtin id)) (ha:PA X (e :: es) t) (hn:x ≠ "__name__" := by decide) (hdb:(x == ("__debug__" : Str))=false:=by decide)
  (he:starEach (e :: es) X.env=(false,eval e X.env) :: starEach es X.env:=by rfl) (hpl:(backTo pos (starEach es X.env)).any (·.1)=false:=by rfl):PE X (.Call (.Name x p) (e :: es) [] pos) (tCB r t):=by
 intro pins s σ H Q I h
 refine tT (jx I hg hm hv ?_ hn hdb)
 exact PyProof.Rows.callWith_builtin1 (aZ (ha pos pins s σ H _ I h) λus s1 ⟨vs,H1,I1,r1,q1⟩=>hc pins s1 σ H1 vs us Q I1 r1 q1) he hpl
theorem vL (hc:gZ X (.type T) r) (hg:Gl X x) (hm:X.mg x=none) (hv:bootBuiltins x=some (.type T)) (ha:PA X (e :: es) t) (hn:x ≠ "__name__" := by decide) (hdb:(x == ("__debug__" : Str))=false:=by decide)
  (he:starEach (e :: es) X.env=(false,eval e X.env) :: starEach es X.env:=by rfl) (hpl:(backTo pos (starEach es X.env)).any (·.1)=false:=by rfl):PE X (.Call (.Name x p) (e :: es) [] pos) (tCB r t):=by
 intro pins s σ H Q I h
 refine tT (jx I hg hm hv ?_ hn hdb)
 exact pI (aZ (ha pos pins s σ H _ I h) λus s1 ⟨vs,H1,I1,r1,q1⟩=>hc pins s1 σ H1 vs us Q I1 r1 q1) he hpl
end
end L2
namespace HT
open PySem PyProof.Rows
section
open PySem.SeqAt
open PySem.AutoSeq1 (wpAny_loadPart')
open PySem.MeetsSeq PySem.MeetsSeq2 PySem.MeetsSeq3
end
section
variable {prog:Program}{w:World}{A:Around}{E:Value->Shared->Prop}{s:Shared}
def sIx (n d:Nat):Option Int->Nat
 | none=>d
 | some v=>if v < 0 then (v + (n:Int)).toNat else min v.toNat n
end
end HT
namespace L2
open PySem PySem.Spec PyProof.Rows
abbrev TO:=St->Hp->(Option Int->Hp->Prop)->Prop
def PO (X:Cx)(e:Option Expr)(t:TO):Prop :=
 ∀(pins:List (Addr×Obj)) (s:Shared) (σ:St) (H:Hp) (Q:Option Int->Hp->Prop),Inv X pins σ H s->t σ H Q ->
  wpAny (model X.prog X.w) X.A (evalPart e X.env) (λu s'=>∃ o H',Inv X pins σ H' s'/\IsPart u o/\Q o H') X.xe s
def zm:TO:=λ_ H Q=>Q none H
def zh (t:TE):TO:=λσ H Q=>t σ H λx H1=>∃ i,x=.int i/\Q (some i) H1
section
variable {X:Cx}{e:Expr}{te:TE}{lo hi:Option Expr}{tl th:TO}{pos p2:Pos}
theorem jp:PO X none zm:=by
 intro pins s σ H Q I h
 rw[evalPart_none]
 exact aa ⟨none,H,I,.none,h⟩
theorem jo (h:PE X e te):PO X (some e) (zh te):=by
 intro pins s σ H Q I hw
 rw[evalPart_some]
 refine aZ (h pins s σ H _ I hw) λu s1 ⟨x,H1,I1,r1,q1⟩=>?_
 obtain⟨i,rfl,q⟩:=q1
 obtain⟨t,rfl⟩:=r1
 exact⟨some i,H1,I1,.int i t,q⟩
def yg (X:Cx)(r:V->Option Int->Option Int->Hp->VK->Prop):Prop :=
 ∀(pins:List (Addr×Obj)) (s:Shared) (σ:St) (H:Hp) (x:V) (v vl vu:Value) (lo hi:Option Int) (sl:Addr) (Q:VK),Inv X pins σ H s->RelV x v->s.heap.IsSliceOf sl vl vu .none->IsPart vl lo->IsPart vu hi->r x lo hi H Q ->
  ∃ T id,typeLookup (.type T) "__getitem__" = pure (some (.builtin id))/\s.TypeIs v T/\wpAny (model X.prog X.w) X.A (getItem v (.ref sl)) (EP X pins σ Q) X.xe s
def tSl (r:V->Option Int->Option Int->Hp->VK->Prop)(te:TE)(tl th:TO):TE:=λσ H Q=>te σ H λx H1=>tl σ H1 λl H2=>th σ H2 λu H3=>r x l u H3 Q
theorem jq {r:V->Option Int->Option Int->Hp->VK->Prop}(hr:yg X r)(he:PE X e te)(hl:PO X lo tl)(hu:PO X hi th):PE X (.Subscript e (.Slice lo hi none p2) pos) (tSl r te tl th):=by
 intro pins s σ H Q I h
 refine Subscript_ (aZ (he pins s σ H _ I h) λv s1 ⟨x,H1,I1,r1,q1⟩=>?_)
 refine wpAny_Slice (aZ (hl pins s1 σ H1 _ I1 q1) λvl s2 ⟨l,H2,I2,pl,q2⟩=>aZ (hu pins s2 σ H2 _ I2 q2) λvu s3 ⟨u,H3,I3,pu,q3⟩=>?_)
 rw[evalPart_none]
 refine aa ?_
 have I4:Inv X pins σ H3 { s3 with heap:=s3.heap.push { cls:=.type "slice",data:=.fields #[vl,vu,.none] } }:=I3.kept (t':=s3.toks) λb ob q=>bj _ q
 obtain⟨T,id,hT,ht,hg⟩:=hr pins { s3 with heap:=s3.heap.push { cls:=.type "slice",data:=.fields #[vl,vu,.none] } } σ H3 x v vl vu l u s3.heap.objs.size Q I4 r1 (Heap.IsSliceOf.new ..) pl pu q3
 show wpAny (model X.prog X.w) X.A (subscriptTail e (.Slice lo hi none p2) v (.ref s3.heap.objs.size)) (EP X pins σ Q) X.xe { s3 with heap:=s3.heap.push { cls:=.type "slice",data:=.fields #[vl,vu,.none] } }
 exact tail_any (ops:=[.ref s3.heap.objs.size,v]) ht hT hg (by with_unfolding_all rfl)
def gA (xs:List V)(lo hi:Option Int):List V:=(xs.drop (HT.sIx xs.length 0 lo)).take (HT.sIx xs.length xs.length hi - HT.sIx xs.length 0 lo)
theorem Mn (xs:List V)(lo hi:Option Int):(gA xs lo hi).length<=xs.length:=by
 unfold gA
 rw[cZ,o0]
 omega
end
def kU (n:Nat)(i:Int):Option Nat:=if 0<=i then (if i < n then some i.toNat else none) else if -(n:Int)<=i then some (i + n).toNat else none
def cL {α:Type}(xs:List α)(i:Int):Option α:=(kU xs.length i).bind λj=>xs[j]?
theorem Lc {n:Nat}{i:Int}{j:Nat}(h:kU n i=some j):seqIndex? i n=some j/\j < n /\ -(n:Int)<=i/\i < n:=by
 unfold kU at h
 by_cases h0:0<=i
 ·rw[aP h0] at h
  by_cases h1:i < n
  ·rw[aP h1] at h
   have e:i.toNat=j:=kD h
   exact⟨by rw[seqIndex_of h0 h1,e],by omega,by omega,h1⟩
  ·rw[aN h1] at h; cases h
 ·rw[aN h0] at h
  by_cases h1 : -(n:Int)<=i
  ·rw[aP h1] at h
   have e:(i + n).toNat=j:=kD h
   exact⟨by rw[seqIndex_neg (by omega) h1,e],by omega,h1,by omega⟩
  ·rw[aN h1] at h; cases h
theorem yZ {α:Type}{xs:List α}{i:Int}{v:α}(h:cL xs i=some v):∃ j,seqIndex? i xs.length=some j/\xs[j]? = some v/\j < xs.length /\ -(xs.length:Int)<=i/\i < xs.length:=by
 unfold cL at h
 cases e:kU xs.length i with
 | none=>rw[e] at h; cases h
 | some j =>
  rw[e] at h
  obtain⟨h1,h2,h3,h4⟩:=Lc e
  exact⟨j,h1,h,h2,h3,h4⟩
theorem dv {α:Type}{xs:List α}{j:Nat}{v:α}(h:xs[j]? = some v):cL xs (j:Int)=some v:=by
 have hj:j < xs.length:=(cE.mp h).1
 have e:kU xs.length (j:Int)=some j:=by
  unfold kU
  rw[aP (by omega),aP (by omega)]; simp
 unfold cL; rw[e]; exact h
theorem NY {α:Type}(xs:List α)(v:α):cL (xs ++ [v]) (-1)=some v:=by
 have hl:(xs ++ [v]).length=xs.length + 1:=by simp
 have e:kU (xs ++ [v]).length (-1)=some xs.length:=by
  unfold kU
  rw[hl,aN (by decide),aP (by omega)]
  congr 1
  omega
 unfold cL
 rw[e]
 show(xs ++ [v])[xs.length]? = some v
 simp
def EO (b:Expr):Prop:=∀ o i,subscripted b false o i=operate [o,i] (getItem o i)
def kz (X:Cx)(r:R2):Prop :=
 ∀(value slice:Expr) (pins:List (Addr×Obj)) (s:Shared) (σ:St) (H:Hp) (x y:V) (v u:Value) (Q:VK),Inv X pins σ H s->RelV x v->RelV y u->r x y H Q ->
  subscripted slice false v u=operate [v,u] (getItem v u)->wpAny (model X.prog X.w) X.A (subscriptTail value slice v u) (EP X pins σ Q) X.xe s
def yo (X:Cx)(id:String)(r:V->List V->Hp->VK->Prop):Prop :=
 ∀(pins:List (Addr×Obj)) (s:Shared) (σ:St) (H:Hp) (x:V) (xs:List V) (v:Value) (us:List Value) (Q:VK),Inv X pins σ H s->RelV x v->ai xs us->r x xs H Q ->
  wpAny (model X.prog X.w) X.A (call (.builtin id) (v :: us)) (EP X pins σ Q) X.xe s
section
variable {X:Cx}{a b:Expr}{ta tb:TE}{pos:Pos}
theorem kz.or {r r':R2}(h:kz X r)(h':kz X r'):kz X (λx y H Q=>r x y H Q∨r' x y H Q):=by
 intro value slice pins s σ H x y v u Q I rx ry q hs
 rcases q with q | q
 ·exact h value slice pins s σ H x y v u Q I rx ry q hs
 ·exact h' value slice pins s σ H x y v u Q I rx ry q hs
theorem af {r:R2}(hr:kz X r)(ha:PE X a ta)(hb:PE X b tb)(hs:EO b):PE X (.Subscript a b pos) (oJ r ta tb):=by
 intro pins s σ H Q I h
 exact Subscript_ (yY ha hb I h λv u s2 x y H2 I2 rx ry q=>hr a b pins s2 σ H2 x y v u Q I2 rx ry q (hs _ _))
def jh (K:PySem.W.Frag):R2:=λx y H Q=>∃ p xs i v,x=.ref p/\y=.int i/\aD K H p xs/\cL xs i=some v/\Q v H
def qu (K:PySem.W.Frag):R2:=λx y H Q=>∃ p xs i v,x=.ref p/\y=.int i/\bT K H p xs/\cL xs i=some v/\Q v H
def B1:R2:=λx y H Q=>∃ z i c,x=.str z/\y=.int i/\z.length<=sizeLine/\cL z.cps.toList i=some c/\Q (.str ⟨#[c]⟩) H
theorem bN:kz X (jh X.K):=by
 intro value slice pins s σ H x y v u Q I rx ry h hs
 obtain⟨p,xs,i,z,rfl,rfl,hq,he,q⟩:=h
 cases rx
 obtain⟨t,rfl⟩:=ry
 obtain⟨its,r,pl,hz⟩:=I.list hq
 obtain⟨j,h1,h2,h3,h4,h5⟩:=yZ he
 obtain⟨w,ew,rw'⟩:=r.get h2
 have hl:=r.length
 have hn:=p7
 have fin:EP X pins σ Q w s:=⟨z,H,I,rw',q⟩
 by_cases h0:0<=i
 ·have hj:i.toNat=j:=by
   rw[seqIndex_of h0 h5] at h1
   exact kD h1
  exact item_listR pl.isList h0 (by omega) (by rw[hj]; simpa using ew) fin hs
 ·have hj:(i + (its.toArray.size:Int)).toNat=j:=by
   rw[seqIndex_neg (by omega) h4] at h1
   rw[fX,<- hl]
   exact kD h1
  exact subscriptTail_builtinR (x:=w) pl.isList.typeIs slot_list_getitem.lookup
   (wpAny_getItem_list_neg (Q:=λr s'=>r=w/\EP X pins σ Q r s') pl.isList (by omega) (by rw[fX] <;> omega) (by omega) (by rw[hj]; simpa using ew) ⟨rfl,fin⟩) hs
theorem iV:kz X (qu X.K):=by
 intro value slice pins s σ H x y v u Q I rx ry h hs
 obtain⟨p,xs,i,z,rfl,rfl,hq,he,q⟩:=h
 cases rx
 obtain⟨t,rfl⟩:=ry
 obtain⟨its,r,pl,hz⟩:=I.tuple hq
 obtain⟨j,h1,h2,h3,h4,h5⟩:=yZ he
 obtain⟨w,ew,rw'⟩:=r.get h2
 have hl:=r.length
 have hn:=p7
 have fin:EP X pins σ Q w s:=⟨z,H,I,rw',q⟩
 exact subscriptTail_builtinR (x:=w) pl.typeIs slot_tuple_getitem.lookup
  (getItem_tuple (j:=j) (Q:=λr s'=>r=w/\EP X pins σ Q r s') pl (by omega) (by omega) (by rw[fX,<- hl]; exact h1) (by simpa using ew) ⟨rfl,fin⟩) hs
theorem dS:kz X B1:=by
 intro value slice pins s σ H x y v u Q I rx ry h hs
 obtain⟨z,i,c,rfl,rfl,hz,he,q⟩:=h
 obtain⟨t,rfl⟩:=rx
 obtain⟨t',rfl⟩:=ry
 obtain⟨j,h1,h2,h3,h4,h5⟩:=yZ he
 have hl:z.cps.toList.length=z.length:=by simp[Str.length]
 rw[hl] at h1 h4 h5
 have hn:=p7
 exact tail_any (typeIs_str s z t) slot_str_getitem.lookup (getItem_str (c:=c) (by
  have e1:decide (i < -(2 ^ 63:Int))=false:=cy (by omega)
  have e2:decide (i ≥ 2 ^ 63)=false:=cy (by omega)
  rw[e1,e2,Bool.or_false]) (by rw[h1]; simpa using h2) ⟨.str ⟨#[c]⟩,H,I.tok _,⟨_,rfl⟩,q⟩) hs
def xH (K:PySem.W.Frag):R2:=λx y H Q=>jh K x y H Q∨qu K x y H Q∨B1 x y H Q
theorem CW:kz X (xH X.K):=bN.or (iV.or dS)
theorem He (lo hi:Option Int)(n:Nat):(sliceBounds lo hi none n).1=((HT.sIx n 0 lo:Nat):Int)/\(sliceBounds lo hi none n).2.1=((HT.sIx n n hi:Nat):Int)/\(sliceBounds lo hi none n).2.2=1:=by
 refine⟨?_,?_,rfl⟩
 ·cases lo with
  | none=>simp[sliceBounds,HT.sIx]
  | some i =>
   simp only[sliceBounds,HT.sIx,Option.getD_none,show(1:Int) > 0 by decide,jM]
   by_cases h:i < 0
   ·simp only[h,jM] <;> omega
   ·simp only[h,iw] <;> omega
 ·cases hi with
  | none=>simp[sliceBounds,HT.sIx]
  | some i =>
   simp only[sliceBounds,HT.sIx,Option.getD_none,show(1:Int) > 0 by decide,jM]
   by_cases h:i < 0
   ·simp only[h,jM] <;> omega
   ·simp only[h,iw] <;> omega
theorem Hf (its:List Value)(lo hi:Option Int):slicePick its.toArray lo hi none=((its.drop (HT.sIx its.length 0 lo)).take (HT.sIx its.length its.length hi - HT.sIx its.length 0 lo)).toArray:=by
 obtain⟨h1,h2,h3⟩:=He lo hi its.toArray.size
 unfold slicePick
 rw[h1,h2,h3]
 simp only[sliceRange_one,pick_run,fX] <;> rfl
def xG (K:PySem.W.Frag):V->Option Int->Option Int->Hp->VK->Prop:=λx lo hi H Q=>∃ a xs,x=.ref a/\aD K H a xs/\∀ p,H p=none->Q (.ref p) (upd H p (.lst (gA xs lo hi)))
theorem oO:yg X (xG X.K):=by
 intro pins s σ H x v vl vu lo hi sl Q I rx hs pl pu h
 obtain⟨a,xs,rfl,hx,q⟩:=h
 cases rx
 obtain⟨its,r,ht,hz⟩:=I.list hx
 have hlen:=r.length
 refine⟨"list",_,slot_list_getitem.lookup,ht.isList.typeIs,?_⟩
 refine wpAny_getItem_list_slice ht.isList hs pl pu .none (by simp) ?_ (by rw[fX] <;> omega)
 rw[Hf,<- hlen]
 refine⟨.ref s.heap.objs.size,_,I.laid (t':=s.toks) (o:=.lst (gA xs lo hi)) (λb ob q=>bj _ q) (aY _) ?_,rfl,q _ (I.hok.fresh (aY _))⟩
 exact⟨b8 (Mn xs lo hi) hz,_,0,(r.drop (HT.sIx xs.length 0 lo)).take (HT.sIx xs.length xs.length hi - HT.sIx xs.length 0 lo),fD _ rfl⟩
def hW:V->Bool
 | .non=>true
 | .bl _=>true
 | .int _=>true
 | .str _=>true
 | _=>false
def eZ:V->V->Bool
 | .non,.non=>true
 | .bl a,.bl b=>a == b
 | .bl a,.int b=>(if a then 1 else 0) == b
 | .int a,.bl b=>a == (if b then 1 else 0)
 | .int a,.int b=>a == b
 | .str a,.str b=>a == b
 | _,_=>false
theorem DD {A:Around}{s:Shared}{y x:V}{u v:Value}(ry:RelV y u)(rx:RelV x v)(fy:hW y=true)(fx:hW x=true):SeqAt.EqAt A s u v (eZ y x):=by
 cases y with
 | non =>
  cases ry
  cases x with
  | non=>cases rx; exact SeqAt.EqAt.same _
  | bl b=>cases rx; exact SeqAt.EqAt.none_bool b
  | int b=>obtain⟨t,rfl⟩:=rx; exact SeqAt.EqAt.none_int b t
  | str b=>obtain⟨t,rfl⟩:=rx; exact SeqAt.EqAt.none_str b t
  | _=>exact absurd (show false=true from fx) dN
 | bl a =>
  cases ry
  cases x with
  | non=>cases rx; exact SeqAt.EqAt.bool_none a
  | bl b=>cases rx; exact SeqAt.EqAt.bool_bool a b
  | int b=>obtain⟨t,rfl⟩:=rx; exact SeqAt.EqAt.bool_int a b t
  | str b=>obtain⟨t,rfl⟩:=rx; exact SeqAt.EqAt.bool_str a b t
  | _=>exact absurd (show false=true from fx) dN
 | int a =>
  obtain⟨t',rfl⟩:=ry
  cases x with
  | non=>cases rx; exact SeqAt.EqAt.int_none a t'
  | bl b=>cases rx; exact SeqAt.EqAt.int_bool a t' b
  | int b=>obtain⟨t,rfl⟩:=rx; exact SeqAt.EqAt.int_int a t' b t
  | str b=>obtain⟨t,rfl⟩:=rx; exact SeqAt.EqAt.int_str a t' b t
  | _=>exact absurd (show false=true from fx) dN
 | str a =>
  obtain⟨t',rfl⟩:=ry
  cases x with
  | non=>cases rx; exact SeqAt.EqAt.str_none a t'
  | bl b=>cases rx; exact SeqAt.EqAt.str_bool a t' b
  | int b=>obtain⟨t,rfl⟩:=rx; exact SeqAt.EqAt.str_int a t' b t
  | str b=>obtain⟨t,rfl⟩:=rx; exact SeqAt.EqAt.str_str a t' b t
  | _=>exact absurd (show false=true from fx) dN
 | _=>exact absurd (show false=true from fy) dN
def hX (x:V)(u:Value):Bool:=match u with
 | .none=>eZ .non x
 | .bool b=>eZ (.bl b) x
 | .int i _=>eZ (.int i) x
 | .str z _=>eZ (.str z) x
 | _=>false
theorem DB {x y:V}{u:Value}(r:RelV y u)(f:hW y=true):hX x u=eZ y x:=by
 cases y with
 | non=>cases r; rfl
 | bl b=>cases r; rfl
 | int i=>obtain⟨t,rfl⟩:=r; rfl
 | str z=>obtain⟨t,rfl⟩:=r; rfl
 | _=>exact absurd (show false=true from f) dN
theorem rh {x:V}:∀{xs:List V}{us:List Value},ai xs us->xs.all hW=true->us.any (hX x)=xs.any λy=>eZ y x
 | _,_,.nil,_=>rfl
 | y :: xs,u :: us,.cons r t,f=>by
  rw[pV,gE] at f
  rw[o5,o5,DB r f.1,rh t f.2]
theorem rE {A:Around}{s:Shared}{x:V}{v:Value}(rx:RelV x v)(fx:hW x=true):∀{xs:List V}{us:List Value},ai xs us->xs.all hW=true->∀ u∈us,SeqAt.EqAt A s u v (hX x u)
 | _,_,.nil,_=>λu hu=>by cases hu
 | y :: xs,u :: us,.cons r t,f=>λu' hu=>by
  rw[pV,gE] at f
  rcases bh.mp hu with rfl | hu
  ·rw[DB r f.1]; exact DD r rx f.1 fx
  ·exact rE rx fx t f.2 u' hu
def eF (x:V)(xs:List V):Bool:=xs.any λy=>eZ y x
def jj (K:PySem.W.Frag)(neg:Bool):R2:=λx y H Q=>∃ p xs,y=.ref p/\(aD K H p xs∨bT K H p xs)/\hW x=true/\xs.all hW=true/\Q (.bl (if neg then !eF x xs else eF x xs)) H
theorem n4:d9 X (compareOp .In) (jj X.K false):=by
 intro pins s σ H x y v u Q I rx ry h
 obtain⟨p,xs,rfl,hq,fx,fs,q⟩:=h
 cases ry
 rcases hq with hq | hq
 ·obtain⟨its,r,pl,hz⟩:=I.list hq
  refine SeqAt.in_listAt (hX x) pl.isList (λw hw=>rE rx fx r fs w (by simpa using hw)) ⟨.bl _,H,I,rfl,?_⟩
  rw[show its.toArray.any (hX x)=its.any (hX x) by simp,rh r fs]
  exact q
 ·obtain⟨its,r,pl,hz⟩:=I.tuple hq
  refine SeqAt.in_tupleAt (hX x) pl (λw hw=>rE rx fx r fs w (by simpa using hw)) ⟨.bl _,H,I,rfl,?_⟩
  rw[show its.toArray.any (hX x)=its.any (hX x) by simp,rh r fs]
  exact q
theorem xU:d9 X (compareOp .NotIn) (jj X.K true):=by
 intro pins s σ H x y v u Q I rx ry h
 obtain⟨p,xs,rfl,hq,fx,fs,q⟩:=h
 cases ry
 rcases hq with hq | hq
 ·obtain⟨its,r,pl,hz⟩:=I.list hq
  refine SeqAt.notIn_listAt (hX x) pl.isList (λw hw=>rE rx fx r fs w (by simpa using hw)) ⟨.bl _,H,I,rfl,?_⟩
  rw[show its.toArray.any (hX x)=its.any (hX x) by simp,rh r fs]
  exact q
 ·obtain⟨its,r,pl,hz⟩:=I.tuple hq
  refine SeqAt.notIn_tupleAt (hX x) pl (λw hw=>rE rx fx r fs w (by simpa using hw)) ⟨.bl _,H,I,rfl,?_⟩
  rw[show its.toArray.any (hX x)=its.any (hX x) by simp,rh r fs]
  exact q
theorem fO:gZ X (.builtin "len") (λxs H Q=>∃ p ys,xs=[.ref p]/\(aD X.K H p ys∨bT X.K H p ys)/\Q (.int ys.length) H):=by
 intro pins s σ H xs us Q I r h
 obtain⟨p,ys,rfl,hq,q⟩:=h
 obtain⟨u,rfl,rx⟩:=qA r
 cases rx
 have hn:=p7
 rcases hq with hq | hq
 ·obtain⟨its,r',pl,hz⟩:=I.list hq
  have hlen:=r'.length
  exact Calls.call_len_list pl.isList (by simp only[fX] <;> omega) ⟨.int ys.length,H,I.tok _,⟨s.toks + 1,by rw[fX,hlen]⟩,q⟩
 ·obtain⟨its,r',pl,hz⟩:=I.tuple hq
  have hlen:=r'.length
  exact len_tuple pl (by simp only[fX] <;> omega) ⟨.int ys.length,H,I.tok _,⟨s.toks + 1,by rw[fX,hlen]⟩,q⟩
theorem j4:gZ X (.builtin "len") (λxs H Q=>∃ z,xs=[.str z]/\z.length<=sizeLine/\Q (.int z.length) H):=by
 intro pins s σ H xs us Q I r h
 obtain⟨z,rfl,hz,q⟩:=h
 obtain⟨u,rfl,t,rfl⟩:=qA r
 have hn:=p7
 exact len_str (by omega) ⟨.int z.length,H,I.tok _,⟨_,rfl⟩,q⟩
def tyV (K:PySem.W.Frag)(T:String)(x:V)(H:Hp):Prop:=match x with
 | .str _=>T = "str"
 | .int _=>T = "int"
 | .ref p=>(T = "list" /\ ∃ xs,aD K H p xs)∨(T = "tuple" /\ ∃ o,K.lookup p=some o/\o.cls=.type "tuple" /\ o.dict=none) ∨
   (T = "dict" /\ ((∃ kvs,H p=some (.dK kvs))∨∃ kvs,H p=some (.dT kvs)))∨(T = "set" /\ ∃ S n,H p=some (.set S n))
 | _=>False
theorem FM {pins:List (Addr×Obj)}{σ:St}{H:Hp}{s:Shared}{T:String}{x:V}{v:Value}(I:Inv X pins σ H s)(r:RelV x v)(ty:tyV X.K T x H) :
  s.TypeIs v T/\∀ a,v=.ref a->∃ ob,s.heap.get? a=some ob/\ob.dict=none:=by
 cases x with
 | str z =>
  obtain⟨t,rfl⟩:=r
  cases (show T = "str" from ty)
  exact⟨typeIs_str s z t,λ_ e=>nomatch e⟩
 | int i =>
  obtain⟨t,rfl⟩:=r
  cases (show T = "int" from ty)
  exact⟨typeIs_int s i t,λ_ e=>nomatch e⟩
 | ref p =>
  cases r
  rcases ty with⟨rfl,xs,hq⟩ | ⟨rfl,o,hk,hc,hd⟩ | ⟨rfl,hk⟩ | ⟨rfl,S,n,hk⟩
  ·obtain⟨its,_,pl,_⟩:=I.list hq
   refine⟨pl.isList.typeIs,λa e=>?_⟩
   cases e
   obtain⟨o,n,e,c,hd,_⟩:=pl
   exact⟨o,e,hd⟩
  ·refine⟨⟨o,I.kIn p o hk,hc⟩,λa e=>?_⟩
   cases e
   exact⟨o,I.kIn _ o hk,hd⟩
  ·have z:∃ o,s.heap.get? p=some o/\o.ExactDict:=by
    rcases hk with⟨kvs,hk⟩ | ⟨kvs,hk⟩
    ·obtain⟨_,_,_,_,o,_,_,e,ex,_⟩:=I.hok p _ hk
     exact⟨o,e,ex⟩
    ·obtain⟨_,_,_,_,o,_,_,e,ex,_⟩:=I.hok p _ hk
     exact⟨o,e,ex⟩
   obtain⟨o,e,ex⟩:=z
   refine⟨⟨o,e,ex.1⟩,λa e2=>?_⟩
   cases e2
   exact⟨o,e,ex.2.1⟩
  ·obtain⟨o,_,_,_,e,ex,_⟩:=I.hok p _ hk
   refine⟨⟨o,e,ex.1⟩,λa e2=>?_⟩
   cases e2
   exact⟨o,e,ex.2.1⟩
 | _=>exact False.elim ty
def tBM (K:PySem.W.Frag)(T:String)(r:V->List V->Hp->VK->Prop)(to:TE)(t:TA):TE:=λσ H Q=>to σ H λx H1=>tyV K T x H1/\t σ H1 λxs H2=>r x xs H2 Q
variable {o e:Expr}{es:List Expr}{to:TE}{t:TA}{name:Str}{apos cpos:Pos}{T id:String}{r:V->List V->Hp->VK->Prop}
theorem hG (pa:PlainAttrs T) (slot:Slot T name id) (hty:typeOf (.builtin id)=pure (.type "method_descriptor")) (hm:yo X id r) (ho:PE X o to) (ha:PA X (e :: es) t)
  (hbase:attributeBase o name X.env (eval o X.env)=eval o X.env:=by rfl)
  (hfew:((backTo cpos (starEach (e :: es) X.env)).all (λx=>!x.1) && (backToKw cpos (keywordEach [] X.env)).all (λx=>x.1.isSome)
   && decide ((e :: es).length + ([]:List Keyword).length + (if ([]:List Keyword).isEmpty then 0 else 1) < 30))=true:=by rfl)
  (hline:(apos.endLine == cpos.line)=true:=by rfl) (hs:starEach (e :: es) X.env=(false,eval e X.env) :: starEach es X.env:=by rfl) (hplain:(backTo cpos (starEach es X.env)).any (·.1)=false:=by rfl) :
  PE X (.Call (.Attribute o name apos) (e :: es) [] cpos) (tBM X.K T r to t):=by
 intro pins s σ H Q I h
 refine wpAny_Call_method_late hbase hfew hline rfl (aZ (ho pins s σ H _ I h) λv s1 ⟨x,H1,I1,r1,ty,q1⟩=>?_)
 obtain⟨h1,h2⟩:=FM I1 r1 ty
 refine⟨T,id,pa,slot,hty,h1,h2,?_⟩
 have hA:=ha cpos pins s1 σ H1 _ I1 q1
 rw[hs] at hA ⊢
 refine Calls.callWith_builtin (by show(false || (backTo cpos (starEach es X.env)).any (·.1))=false; rw[hplain] <;> rfl) (Calls.evalArgs_plain ?_)
 exact aZ hA λus s2 ⟨vs,H2,I2,r2,q2⟩=>hm pins s2 σ H2 x vs v us Q I2 r1 r2 q2
end
def MtM (X:Cx)(id:String)(r:V->List V->Hp->VK->Prop):Prop :=
 ∀(pins:List (Addr×Obj)) (s:Shared) (σ:St) (H:Hp) (x:V) (xs:List V) (v:Value) (us:List Value) (Q:VK),Inv X pins σ H s->RelV x v->ai xs us->r x xs H Q ->
  wpAny (model X.prog X.w) X.A (call (.builtin id) (v :: us)) (EP X pins σ Q) X.xe s
theorem ai.one:∀{x:V}{us:List Value},ai [x] us->∃ u,us=[u]/\RelV x u
 | _,_,.cons r .nil=>⟨_,rfl,r⟩
theorem ai.two:∀{x y:V}{us:List Value},ai [x,y] us->∃ u v,us=[u,v]/\RelV x u/\RelV y v
 | _,_,_,.cons r (.cons q .nil)=>⟨_,_,rfl,r,q⟩
theorem ai.eraseIdx:∀{xs:List V}{us:List Value}(i:Nat),ai xs us->ai (xs.eraseIdx i) (us.eraseIdx i)
 | _,_,_,.nil=>.nil
 | _,_,0,.cons _ t=>t
 | _,_,i + 1,.cons r t=>.cons r (ai.eraseIdx i t)
theorem CU {α:Type}:∀(l:List α) (i:Nat),(l.eraseIdx i).length<=l.length
 | [],_=>aY _
 | _ :: _,0=>gB _
 | _ :: r,i + 1=>Nat.succ_le_succ (CU r i)
section
variable {X:Cx}{pins:List (Addr×Obj)}{σ:St}{H:Hp}{s:Shared}{l b:Addr}{xs ys zs:List V}
theorem Inv.lset {its its':List Value}{n:Nat}{f:Array Value->Array Value}{t':Nat}(I:Inv X pins σ H s)(hH:H l=some (.lst xs))
  (e:s.heap.get? l=some { cls:=.type "list",data:=.seq its.toArray n }) (hf:f its.toArray=its'.toArray) (hv:ai ys its') (hz:ys.length<=sizeLine) :
  Inv X pins σ (upd H l (.lst ys)) { s with heap:=s.heap.update l (Obj.mapSeq f),toks:=t' }:=by
 have q:=PySem.IsL.update e f
 rw[hf] at q
 refine I.write (x:=l) (e:=l) (by rw[hH]; exact trivial) (.inl rfl) (λb' u hb hu=>(Heap.get?_update_other s.heap (Obj.mapSeq f) (fB hb)).trans hu) ⟨_,q⟩ ?_
 exact⟨hz,its',_,hv,q⟩
theorem Inv.lnew {its:List Value}{t':Nat}(I:Inv X pins σ H s)(hv:ai ys its)(hz:ys.length<=sizeLine) :
  Inv X pins σ (upd H s.heap.objs.size (.lst ys)) { s with heap:=s.heap.push { cls:=.type "list",data:=.seq its.toArray },toks:=t' } :=
 I.laid (λ_ _ q=>bj _ q) (aY _) ⟨hz,its,0,hv,fD _ rfl⟩
theorem Inv.fresh (I:Inv X pins σ H s):H s.heap.objs.size=none:=I.hok.fresh (aY _)
theorem Inv.lstM (I:Inv X pins σ H s)(hH:H l=some (.lst xs)):xs.length<=sizeLine/\∃(its:List Value) (n:Nat),ai xs its/\xs.length=its.length/\s.heap.get? l=some { cls:=.type "list",data:=.seq its.toArray n }:=by
 obtain⟨z,its,n,r,e⟩:=I.hok l _ hH
 exact⟨z,its,n,r,r.length,e⟩
end
section
variable {X:Cx}
def B3:V->List V->Hp->VK->Prop:=λx vs H Q=>∃ l xs y,x=.ref l/\vs=[y]/\H l=some (.lst xs)/\xs.length < sizeLine/\Q .non (upd H l (.lst (xs ++ [y])))
theorem jL:MtM X "list.append" B3:=by
 intro pins s σ H x vs v us Q I rx rv h
 obtain⟨l,xs,y,rfl,rfl,hH,hz,q⟩:=h
 cases rx
 obtain⟨u,rfl,ru⟩:=rv.one
 obtain⟨z,its,n,r,hl,e⟩:=I.lstM hH
 refine call_meets F.slot_list_append ⟨_,e,rfl⟩ F.entry_list_append (F.args_list_append_2 _ _) (PySem.list_append l its.toArray n u (by rw[fX]; omega)) ⟨e,?_⟩
 refine⟨.non,_,I.lset (its':=its ++ [u]) hH e (by simp) (r.append (.cons ru .nil)) ?_,rfl,q⟩
 rw[cR,List.length_singleton]
 omega
def Iu:V->List V->Hp->VK->Prop:=λx vs H Q=>∃ l xs i k y,x=.ref l/\vs=[.int i]/\H l=some (.lst xs) /\ -(2 ^ 63)<=i/\i < 2 ^ 63/\seqIndex? i xs.length=some k/\xs[k]? = some y/\Q y (upd H l (.lst (xs.eraseIdx k)))
theorem L6:MtM X "list.pop" Iu:=by
 intro pins s σ H x vs v us Q I rx rv h
 obtain⟨l,xs,i,k,y,rfl,rfl,hH,h1,h2,hk,hy,q⟩:=h
 cases rx
 obtain⟨u,rfl,ru⟩:=rv.one
 obtain⟨t,rfl⟩:=ru
 obtain⟨z,its,n,r,hl,e⟩:=I.lstM hH
 obtain⟨w,hw,rw'⟩:=r.get hy
 refine call_meets F.slot_list_pop ⟨_,e,rfl⟩ F.entry_list_pop (F.args_list_pop_2 _ _)
  (MeetsSeq.list_pop_at l its.toArray n i t k w (fitsIndex_both h1 h2) (by rw[fX,<- hl]; exact hk) (by rw[<- Array.getElem?_toList]; exact hw) (by rw[fX]; omega)) ⟨e,?_⟩
 refine⟨y,_,I.lset (its':=its.eraseIdx k) hH e ?_ (r.eraseIdx k) ?_,rw',q⟩
 ·show its.toArray.eraseIdxIfInBounds k=(its.eraseIdx k).toArray
  rw[List.eraseIdxIfInBounds_toArray]
 ·have:=CU xs k
  omega
def Iz:R2:=λx y H Q=>∃ l b xs zs,x=.ref l/\y=.ref b/\H l=some (.lst xs)/\H b=some (.lst zs)/\xs.length + zs.length<=sizeLine/\∀ p,H p=none->Q (.ref p) (upd H p (.lst (xs ++ zs)))
theorem JW:d9 X (binaryOp .Add) Iz:=by
 intro pins s σ H x y v u Q I rx ry h
 obtain⟨l,b,xs,zs,rfl,rfl,hH,hB,hz,q⟩:=h
 cases rx
 cases ry
 obtain⟨z,its,n,r,hl,e⟩:=I.lstM hH
 obtain⟨z2,its2,n2,r2,hl2,e2⟩:=I.lstM hB
 refine PySem.P.add_list e e2 ?_ (by rw[fX,fX]; omega)
 have ea:its.toArray ++ its2.toArray=(its ++ its2).toArray:=by simp
 rw[ea]
 exact⟨.ref _,_,I.lnew (t':=s.toks) (r.append r2) (by rw[cR]; omega),rfl,q _ I.fresh⟩
end
section
variable {prog:Program}{w:World}{A:Around}{E:Value->Shared->Prop}{s:Shared}
end
section
variable {X:Cx}
end
section
variable {κ:Type} [DecidableEq κ]
def b9 (kvs:List (κ×V))(k:κ):Option V:=(kvs.find? λkv=>decide (kv.1=k)).map (·.2)
def dC (kvs:List (κ×V))(k:κ)(v:V):List (κ×V) :=
 if (kvs.any λkv=>decide (kv.1=k))=true then kvs.map (λkv=>if kv.1=k then (kv.1,v) else kv) else kvs ++ [(k,v)]
def nG (kvs:List (κ×V))(k:κ):List (κ×V):=kvs.filter λkv=>decide (kv.1≠k)
theorem ik {p:κ×V}{r:List (κ×V)}{k:κ}(e:p.1=k):b9 (p :: r) k=some p.2:=by simp[b9,tJ,e]
theorem im {p:κ×V}{r:List (κ×V)}{k:κ}(e:¬ p.1=k):b9 (p :: r) k=b9 r k:=by simp[b9,tJ,e]
theorem oC (k:κ):∀ kvs:List (κ×V),(kvs.any λkv=>decide (kv.1=k))=(b9 kvs k).isSome
 | []=>rfl
 | p :: r=>by
  rw[o5]
  by_cases e:p.1=k
  ·simp only[ik e,bR e,Bool.true_or,Option.isSome_some]
  ·rw[im e,cy e,Bool.false_or]; exact oC k r
theorem zV (k j:κ)(y:V):∀ kvs:List (κ×V),b9 (kvs.map λkv=>if kv.1=k then (kv.1,y) else kv) j=(b9 kvs j).map λx=>if j=k then y else x
 | []=>rfl
 | p :: r=>by
  have ih:=zV k j y r
  rw[eU]
  by_cases h:p.1=k
  ·rw[aP h]
   by_cases e:p.1=j
   ·rw[ik (p:=(p.1,y)) e,ik e,Option.map_some,aP (e.symm.trans h)]
   ·rw[im (p:=(p.1,y)) e,im e,ih]
  ·rw[aN h]
   by_cases e:p.1=j
   ·rw[ik (p:=p) e,ik e,Option.map_some,aN (λz=>h (e.trans z))]
   ·rw[im (p:=p) e,im e,ih]
theorem zS (k j:κ)(y:V):∀ kvs:List (κ×V),b9 kvs k=none->b9 (kvs ++ [(k,y)]) j=if j=k then some y else b9 kvs j
 | [],_=>by
  by_cases e:k=j
  ·rw[aP e.symm]; exact ik (p:=(k,y)) e
  ·rw[aN (λz=>e z.symm)]; exact im (p:=(k,y)) e
 | p :: r,hn=>by
  rw[List.cons_append]
  have hk:¬ p.1=k:=λz=>by rw[ik z] at hn; cases hn
  rw[im hk] at hn
  have ih:=zS k j y r hn
  by_cases e:p.1=j
  ·rw[ik e,ik e,aN (λz=>hk (e.trans z))]
  ·rw[im e,im e,ih]
theorem zU (kvs:List (κ×V))(k j:κ)(y:V):b9 (dC kvs k y) j=if j=k then some y else b9 kvs j:=by
 unfold dC
 by_cases a:(kvs.any λkv=>decide (kv.1=k))=true
 ·rw[aP a,zV]
  rw[oC] at a
  by_cases e:j=k
  ·obtain⟨x,hx⟩:=tF.mp a
   rw[aP e,e,hx,Option.map_some,aP rfl]
  ·rw[aN e]
   cases b9 kvs j with
   | none=>rfl
   | some x=>rw[Option.map_some,aN e]
 ·rw[aN a]
  refine zS k j y kvs ?_
  rw[oC] at a
  cases q:b9 kvs k with
  | none=>rfl
  | some x=>rw[q] at a; exact(a rfl).elim
theorem p9 (kvs:List (κ×V))(k:κ)(v:V):(dC kvs k v).length<=kvs.length + 1:=by
 unfold dC
 split
 ·rw[aI]; omega
 ·rw[cR,dm,List.length_nil]; omega
theorem fR.isSome_eq {o:Option V}{u:Option Value}(r:fR o u):o.isSome=u.isSome:=by
 cases o with
 | none=>cases u with
  | none=>rfl
  | some _=>exact(show False from r).elim
 | some _=>cases u with
  | none=>exact(show False from r).elim
  | some _=>rfl
theorem fR.getD {o:Option V}{u:Option Value}{d:V}{d':Value}(r:fR o u)(rd:RelV d d'):RelV (o.getD d) (u.getD d'):=by
 cases o with
 | none=>cases u with
  | none=>exact rd
  | some _=>exact(show False from r).elim
 | some _=>cases u with
  | none=>exact(show False from r).elim
  | some _=>exact r
theorem KV.val {kvs:List (κ×V)}{vs:List (κ×Value)}(r:KV kvs vs)(k:κ):fR (b9 kvs k) (valueAt vs k):=by
 unfold KV at r
 induction r with
 | nil=>exact True.intro
 | @cons p q ps qs h t ih =>
  obtain⟨h1,h2⟩:=h
  by_cases e:p.1=k
  ·have e':q.1=k:=h1.symm.trans e
   have b:valueAt (q :: qs) k=some q.2:=by simp[valueAt,tJ,e']
   rw[ik e,b]; exact h2
  ·have e':¬ q.1=k:=λz=>e (h1.trans z)
   have b:valueAt (q :: qs) k=valueAt qs k:=by simp[valueAt,tJ,e']
   rw[im e,b]; exact ih
theorem KV.any {kvs:List (κ×V)}{vs:List (κ×Value)}(r:KV kvs vs)(k:κ):(kvs.any λkv=>decide (kv.1=k))=vs.any λkv=>decide (kv.1=k):=by
 unfold KV at r
 induction r with
 | nil=>rfl
 | cons h t ih=>rw[o5,o5,ih,h.1]
theorem KV.repl {kvs:List (κ×V)}{vs:List (κ×Value)}(r:KV kvs vs)(k:κ){y:V}{u:Value}(ry:RelV y u) :
  KV (kvs.map λkv=>if kv.1=k then (kv.1,y) else kv) (vs.map λkv=>if kv.1=k then (kv.1,u) else kv):=by
 unfold KV at r ⊢
 induction r with
 | nil=>exact .nil
 | @cons p q ps qs h t ih =>
  rw[eU,eU]
  refine .cons ?_ ih
  obtain⟨h1,h2⟩:=h
  by_cases e:p.1=k
  ·rw[aP e,aP (h1.symm.trans e)]; exact⟨h1,ry⟩
  ·rw[aN e,aN (λz=>e (h1.trans z))]; exact⟨h1,h2⟩
theorem KV.put {kvs:List (κ×V)}{vs:List (κ×Value)}(r:KV kvs vs)(k:κ){y:V}{u:Value}(ry:RelV y u):KV (dC kvs k y) (stored vs k u):=by
 unfold dC stored
 rw[r.any k]
 by_cases e:(vs.any λkv=>decide (kv.1=k))=true
 ·rw[aP e,aP e]; exact r.repl k ry
 ·rw[aN e,aN e]; exact Paired.snoc r ⟨rfl,ry⟩
theorem KV.drop {kvs:List (κ×V)}{vs:List (κ×Value)}(r:KV kvs vs)(k:κ):KV (nG kvs k) (without vs k):=by
 unfold KV at r ⊢
 unfold nG without
 induction r with
 | nil=>exact .nil
 | @cons p q ps qs h t ih =>
  obtain⟨h1,h2⟩:=h
  rw[List.filter_cons,List.filter_cons]
  by_cases e:p.1=k
  ·have a:¬ decide (p.1≠k)=true:=by simp[e]
   have b:¬ decide (q.1≠k)=true:=by simp[h1.symm.trans e]
   rw[aN a,aN b]; exact ih
  ·have e':¬ q.1=k:=λz=>e (h1.trans z)
   have a:decide (p.1≠k)=true:=by simp[e]
   have b:decide (q.1≠k)=true:=by simp[e']
   rw[aP a,aP b]; exact .cons ⟨h1,h2⟩ ih
theorem KV.length {kvs:List (κ×V)}{vs:List (κ×Value)}(r:KV kvs vs):kvs.length=vs.length:=Paired.length r
theorem MS (kvs:List (κ×V))(k:κ):(nG kvs k).length<=kvs.length:=gT _ _
end
theorem nC {P:Program}{w:World}{k:aQ}{u:Value}(r:RelV (kV k) u):(dg P w).is k u=true:=by
 cases k with
 | inl i=>obtain⟨t,e⟩:=(show ∃ t,u=Value.int i t from r); subst e; exact L8 P w i t
 | inr x=>obtain⟨t,e⟩:=(show ∃ t,u=Value.str x t from r); subst e; exact L7 P w x t
theorem CY {P:Program}{w:World}:∀{ks:List aQ}{us:List Value},ai (ks.map kV) us->ItemsAre (dg P w) ks us
 | [],_,r=>by rw[List.map_nil] at r; cases r; exact .nil
 | k :: ks,_,r=>by
  rw[eU] at r
  cases r with
  | cons h t=>exact .cons (nC h) (CY t)
abbrev KT (H:Hp):List (List aQ×V)->List (List aQ×Addr×Value)->Prop:=Paired λp q=>p.1=q.1/\H q.2.1=some (.tup (p.1.map kV))/\RelV p.2 q.2.2
theorem KT.val {H:Hp}{kvs:List (List aQ×V)}{xs:List (List aQ×Addr×Value)}(r:KT H kvs xs)(k:List aQ):fR (b9 kvs k) ((atKey xs k).map (·.2)):=by
 induction r with
 | nil=>exact True.intro
 | @cons p q ps qs h t ih =>
  obtain⟨h1,_,h2⟩:=h
  by_cases e:p.1=k
  ·have e':q.1=k:=h1.symm.trans e
   have b:atKey (q :: qs) k=some q.2:=by simp[atKey,tJ,e']
   rw[ik e,b]; exact h2
  ·have e':¬ q.1=k:=λz=>e (h1.trans z)
   have b:atKey (q :: qs) k=atKey qs k:=by simp[atKey,tJ,e']
   rw[im e,b]; exact ih
theorem KT.repl {H:Hp}{kvs:List (List aQ×V)}{xs:List (List aQ×Addr×Value)}(r:KT H kvs xs)(k:List aQ){y:V}{u:Value}(ry:RelV y u) :
  KT H (kvs.map λkv=>if kv.1=k then (kv.1,y) else kv) (xs.map (putAt k u)):=by
 induction r with
 | nil=>exact .nil
 | @cons p q ps qs h t ih =>
  rw[eU,eU]
  refine .cons ?_ ih
  obtain⟨h1,h2,h3⟩:=h
  unfold putAt
  by_cases e:p.1=k
  ·rw[aP e,aP (h1.symm.trans e)]; exact⟨h1,h2,ry⟩
  ·rw[aN e,aN (λz=>e (h1.trans z))]; exact⟨h1,h2,h3⟩
theorem KT.put {H:Hp}{kvs:List (List aQ×V)}{xs:List (List aQ×Addr×Value)}(r:KT H kvs xs)(k:List aQ){b:Addr}{y:V}{u:Value}(hb:H b=some (.tup (k.map kV)))(ry:RelV y u) :
  KT H (dC kvs k y) (storedH xs k b u):=by
 have e:(kvs.any λkv=>decide (kv.1=k))=(atKey xs k).isSome:=by
  rw[oC,(r.val k).isSome_eq,Option.isSome_map]
 unfold dC storedH
 rw[e]
 by_cases q:(atKey xs k).isSome=true
 ·rw[aP q,aP q]; exact r.repl k ry
 ·rw[aN q,aN q]; exact Paired.snoc r ⟨rfl,hb,ry⟩
theorem KT.keeps {H H':Hp}{kvs:List (List aQ×V)}{xs:List (List aQ×Addr×Value)}(r:KT H kvs xs)(ht:∀ b ys,H b=some (.tup ys)->H' b=some (.tup ys)):KT H' kvs xs :=
 wM r λ_ _ z=>⟨z.1,ht _ _ z.2.1,z.2.2⟩
section
variable {P:Program}{w:World}{H:Hp}{h:Heap}{a:Addr}
theorem Ay {u:HO}(ok:cj P w H h)(e:Rd H a u):dL P w H h a u:=e.ok ok
theorem pF {kvs:List (aQ×V)}(ok:cj P w H h)(e:Rd H a (.dK kvs)):kvs.length<=sizeLine/\(a == sysModules)=false/\∃ vs,KV kvs vs/\h.DictOf (dg P w) a vs :=
 show dL P w H h a (.dK kvs) from Ay ok e
theorem rW {kvs:List (aQ×V)}(ok:cj P w H h)(e:H a=some (.dK kvs)):kvs.length<=sizeLine/\(a == sysModules)=false/\∃ vs,KV kvs vs/\h.DictOf (dg P w) a vs:=pF ok (.inl e)
theorem rK {ks:List aQ}(ok:cj P w H h)(e:H a=some (.tup (ks.map kV))):(tupleKind (dg P w)).is h ks a:=by
 obtain⟨_,its,r,o,h1,h2,n,h3⟩:=(show dL P w H h a (.tup (ks.map kV)) from ok a _ e)
 exact⟨o,its.toArray,n,h1,h2,h3,by simpa using CY r⟩
theorem pE {kvs:List (List aQ×V)}(ok:cj P w H h)(e:Rd H a (.dT kvs)):kvs.length<=sizeLine/\(a == sysModules)=false /\
  ∃ xs,KT H kvs xs/\h.DictOfH (tupleKind (dg P w)) a xs:=by
 obtain⟨z,y,xs,r,o,es,ep,h1,h2,h3,h4,h5⟩:=(show dL P w H h a (.dT kvs) from Ay ok e)
 refine⟨z,y,xs,r,o,es,ep,h1,h2,h3,h4,λx hx=>?_,h5⟩
 have all:∀{l:List (List aQ×V)} {m:List (List aQ×Addr×Value)},KT H l m->∀ x∈m,(tupleKind (dg P w)).is h x.1 x.2.1:=by
  intro l m q
  induction q with
  | nil=>intro x hx; exact nomatch hx
  | @cons p q ps qs hq t ih =>
   intro x hx
   rcases bh.mp hx with e | hx
   ·subst e
    exact rK ok (by rw[<- hq.1]; exact hq.2.1)
   ·exact ih x hx
 exact all r x hx
theorem MQ {kvs:List (List aQ×V)}(ok:cj P w H h)(e:H a=some (.dT kvs)):kvs.length<=sizeLine/\(a == sysModules)=false /\
  ∃ xs,KT H kvs xs/\h.DictOfH (tupleKind (dg P w)) a xs:=pE ok (.inl e)
end
def fE (H:Hp)(a:Addr)(y:V)(r:Option V):Prop :=
 (∃ kvs k,Rd H a (.dK kvs)/\y=kV k/\r=b9 kvs k)∨∃ kvs k b,Rd H a (.dT kvs)/\y=.ref b/\H b=some (.tup (k.map kV))/\r=b9 kvs k
def jX (H:Hp)(a:Addr)(y v:V)(H':Hp):Prop :=
 (∃ kvs k,H a=some (.dK kvs)/\y=kV k/\kvs.length < sizeLine/\H'=upd H a (.dK (dC kvs k v))) ∨
 ∃ kvs k b,H a=some (.dT kvs)/\y=.ref b/\H b=some (.tup (k.map kV))/\kvs.length < sizeLine/\H'=upd H a (.dT (dC kvs k v))
theorem fE.k {H:Hp}{a:Addr}{kvs:List (aQ×V)}{k:aQ}(e:H a=some (.dK kvs)):fE H a (kV k) (b9 kvs k):=.inl ⟨kvs,k,.inl e,rfl,rfl⟩
theorem zC {H:Hp}{a b:Addr}{kvs:List (List aQ×V)}{k:List aQ}(e:H a=some (.dT kvs))(eb:H b=some (.tup (k.map kV))):fE H a (.ref b) (b9 kvs k):=.inr ⟨kvs,k,b,.inl e,rfl,eb,rfl⟩
theorem jX.k {H:Hp}{a:Addr}{kvs:List (aQ×V)}{k:aQ}{v:V}(e:H a=some (.dK kvs))(hl:kvs.length < sizeLine):jX H a (kV k) v (upd H a (.dK (dC kvs k v))):=.inl ⟨kvs,k,e,rfl,hl,rfl⟩
theorem F8 {H:Hp}{a b:Addr}{kvs:List (List aQ×V)}{k:List aQ}{v:V}(e:H a=some (.dT kvs))(eb:H b=some (.tup (k.map kV)))(hl:kvs.length < sizeLine) :
  jX H a (.ref b) v (upd H a (.dT (dC kvs k v))):=.inr ⟨kvs,k,b,e,rfl,eb,hl,rfl⟩
section
variable {X:Cx}{pins:List (Addr×Obj)}{σ:St}{H:Hp}{s:Shared}{a:Addr}{y v:V}{u r:Value}{o:Option V}{A:Around}{E:Value->Shared->Prop}
theorem Inv.big (I:Inv X pins σ H s):sysModules < s.heap.objs.size:=by
 have h:mainGlobals < s.heap.objs.size:=(I.mod.glob.keeps I.bk).lt
 exact wT (by decide) h
theorem DT {Q:Value->Shared->Prop}(hu:A.units + 1 < cLine)(I:Inv X pins σ H s)(g:fE H a y (some v))(ry:RelV y u)(h:∀ w' s',Inv X pins σ H s'->RelV v w'->Q w' s') :
  wpAny (model X.prog X.w) A (getItem (.ref a) u) Q E s:=by
 rcases g with⟨kvs,k,e,ey,l⟩ | ⟨kvs,k,b,e,ey,eb,l⟩
 ·subst ey
  obtain⟨z,hd,vs,rel,dd⟩:=pF I.hok e
  obtain⟨w',hw,rw'⟩:=yh (v:=v) (o:=valueAt vs k) (by rw[l]; exact rel.val k)
  exact wpAny_getItem_of (nC ry) dd.mapOf hw (h w' _ (I.tok _) rw')
 ·subst ey
  cases (show u=Value.ref b from ry)
  obtain⟨z,hd,xs,rel,dd⟩:=pE I.hok e
  obtain⟨w',hw,rw'⟩:=yh (v:=v) (o:=(atKey xs k).map (·.2)) (by rw[l]; exact rel.val k)
  obtain⟨p,hp,hp2⟩:=Option.map_eq_some_iff.mp hw
  refine wpAny_getItem_heap (tupleKind_room_in1 hu) (rK I.hok eb) dd hp ?_
  rw[hp2]
  exact h w' _ (I.tok _) rw'
theorem Mf {Q:Value->Shared->Prop}(hu:A.units + 1 < cLine)(I:Inv X pins σ H s)(g:fE H a y o)(ry:RelV y u)(h:∀ s',Inv X pins σ H s'->Q (.bool (!o.isSome)) s') :
  wpAny (model X.prog X.w) A (compareOp .NotIn u (.ref a)) Q E s:=by
 rcases g with⟨kvs,k,e,ey,l⟩ | ⟨kvs,k,b,e,ey,eb,l⟩
 ·subst ey
  obtain⟨z,hd,vs,rel,dd⟩:=pF I.hok e
  refine wpAny_notIn_of (nC ry) hd dd.mapOf ?_
  rw[<- (rel.val k).isSome_eq,<- l]
  exact h _ (I.tok _)
 ·subst ey
  cases (show u=Value.ref b from ry)
  obtain⟨z,hd,xs,rel,dd⟩:=pE I.hok e
  refine wpAny_notIn_heap (tupleKind_room_in1 hu) (rK I.hok eb) hd dd ?_
  have q:=(rel.val k).isSome_eq
  rw[Option.isSome_map] at q
  rw[<- q,<- l]
  exact h _ (I.tok _)
theorem wA {h':Heap}{t':Nat}{ob:HO}(I:Inv X pins σ H s)(mu:pP (H a))(hs:Heap.SameBut a s.heap h')(he:∃ q,h'.get? a=some q)(new:dL X.prog X.w (upd H a ob) h' a ob) :
  Inv X pins σ (upd H a ob) { s with heap:=h',toks:=t' } :=
 I.write (x:=a) (e:=a) mu (.inl rfl) (λb q hb z=>(hs.2 b hb).trans z) he new
theorem w6 {P:Program}{w:World}{H':Hp}{h':Heap}{kvs:List (aQ×V)}{vs:List (aQ×Value)}(z:kvs.length<=sizeLine)(hd:(a == sysModules)=false)(rel:KV kvs vs)(dd:h'.DictOf (dg P w) a vs) :
  dL P w H' h' a (.dK kvs):=⟨z,hd,vs,rel,dd⟩
theorem DS {H':Hp}{Q:Unit->Shared->Prop}(hu:A.units + 1 < cLine)(I:Inv X pins σ H s)(g:jX H a y v H')(ry:RelV y u)(rv:RelV v r)(h:∀ s',Inv X pins σ H' s'->Q () s') :
  wpAny (model X.prog X.w) A (setItem (.ref a) u r) Q E s:=by
 rcases g with⟨kvs,k,e,ey,l,eH⟩ | ⟨kvs,k,b,e,ey,eb,l,eH⟩
 ·subst ey eH
  obtain⟨z,hd,vs,rel,dd⟩:=rW I.hok e
  have hz:vs.length<=sizeLine:=by rw[<- rel.length]; exact z
  have hl:(dC kvs k v).length<=sizeLine:=by have:=p9 kvs k v; omega
  refine wpAny_setItem_pairs (hsz:=hz) (nC ry) dd λh' dd' hs=>h _ ?_
  have he:∃ q,h'.get? a=some q:=let ⟨q,_,_,hq,_⟩:=dd'; ⟨q,hq⟩
  exact wA I (by rw[e]; exact True.intro) hs he (w6 hl hd (rel.put k rv) dd')
 ·subst ey eH
  cases (show u=Value.ref b from ry)
  obtain⟨z,hd,xs,rel,dd⟩:=MQ I.hok e
  have hz:xs.length<=sizeLine:=by rw[<- Paired.length rel]; exact z
  have hl:(dC kvs k v).length<=sizeLine:=by have:=p9 kvs k v; omega
  refine wpAny_setItem_heap (hsz:=hz) (tupleKind_room_in1 hu) (rK I.hok eb) dd λh' dd' hs=>h _ ?_
  obtain⟨q,es,ep,hq,h2,h3,h4,_,h5⟩:=dd'
  refine wA I (by rw[e]; exact True.intro) hs ⟨q,hq⟩ ⟨hl,hd,_,(rel.put k eb rv).keeps λc ys ec=>?_,q,es,ep,hq,h2,h3,h4,h5⟩
  rw[aj (KZ ec e (λz=>nomatch z))]
  exact ec
end
section
variable {X:Cx}{pins:List (Addr×Obj)}{σ:St}{H:Hp}{s:Shared}{a:Addr}{kvs:List (aQ×V)}{k:aQ}{u:Value}{A:Around}{E:Value->Shared->Prop}
theorem Mh {Q:Unit->Shared->Prop}(I:Inv X pins σ H s)(e:H a=some (.dK kvs))(ry:RelV (kV k) u)(l:(b9 kvs k).isSome=true)(h:∀ s',Inv X pins σ (upd H a (.dK (nG kvs k))) s'->Q () s') :
  wpAny (model X.prog X.w) A (delItem (.ref a) u) Q E s:=by
 obtain⟨z,hd,vs,rel,dd⟩:=rW I.hok e
 refine wpAny_delItem_slot dd.typeIs (by decide) PySem.F.slot_dict_delitem
  (call_meetsIn PySem.F.slot_dict_delitem dd.typeIs PySem.F.entry_dict_delitem (PySem.F.args_dict_delitem_2 _ _) (meets_dict_delitem_pairs (dg X.prog X.w) a (nC ry)) ⟨vs,dd,by rw[<- rel.length]; exact z,by rw[<- (rel.val k).isSome_eq]; exact l,λh' dd' hs=>h _ ?_⟩)
 have he:∃ q,h'.get? a=some q:=let ⟨q,_,_,hq,_⟩:=dd'; ⟨q,hq⟩
 exact wA I (by rw[e]; exact True.intro) hs he (w6 (b8 (MS kvs k) z) hd (rel.drop k) dd')
end
def EQ (i:Expr):Prop:=∀ ov iv,subscripted i false ov iv=operate [ov,iv] (getItem ov iv)
theorem GM {prog:Program}{w:World}{A:Around}{E:Value->Shared->Prop}{s:Shared}{env:Env}{value slice:Expr}{pos:Pos}{T id:String}{Q:Value->Shared->Prop}
  (hl:typeLookup (.type T) "__getitem__" = pure (some (.builtin id))) (hs:EQ slice)
  (h:wpAny (model prog w) A (eval value env) (λo s₁=>wpAny (model prog w) A (eval slice env) (λi s₂=>s₂.TypeIs o T/\wpAny (model prog w) A (getItem o i) Q E s₂) E s₁) E s) :
  wpAny (model prog w) A (eval (.Subscript value slice pos) env) Q E s:=by
 refine Subscript_ (fY h (λo s₁ h₁=>fY h₁ (λi s₂ h₂=>?_) λ_ _ x=>x) λ_ _ x=>x)
 obtain⟨hT,h₂⟩:=h₂
 unfold subscriptTail
 refine aE ?_
 rw[getitemInPython_of_ne hT.not_modules]
 refine aE (wpAny_specialOf hT hl ?_)
 have fin:wpAny (model prog w) A (subscripted slice false o i) (λr s₃=>wpAny (model prog w) A (letTemporaryGo value o r >>= λ_=>pure r) Q E s₃) E s₂:=by
  rw[hs o i]
  exact wpAny_operating (fY h₂ (λr s₃ h₃=>aE (wpAny_letTemporaryGo (aa h₃))) λ_ _ x=>x)
 first
  | exact aa (aE fin)
  | exact aE (aa (aE fin))
  | exact aE fin
theorem MY {X:Cx}{pins:List (Addr×Obj)}{σ:St}{H:Hp}{s:Shared}{a:Addr}{y:V}{o:Option V}(I:Inv X pins σ H s)(g:fE H a y o):s.TypeIs (.ref a) "dict" := by
 rcases g with⟨kvs,k,e,_,_⟩ | ⟨kvs,k,b,e,_,_,_⟩
 ·obtain⟨_,_,vs,_,dd⟩:=pF I.hok e
  exact dd.typeIs
 ·obtain⟨_,_,xs,_,dd⟩:=pE I.hok e
  exact dd.typeIs
def GB (td ty:TE):TE:=λσ H Q=>td σ H λx H1=>ty σ H1 λy H2=>iL λa v=>x=.ref a/\fE H2 a y (some v)/\Q v H2
def G7 (ty td:TE):TE:=λσ H Q=>ty σ H λy H1=>td σ H1 λx H2=>iL λa o=>x=.ref a/\fE H2 a y o/\Q (.bl (!o.isSome)) H2
def Ih (td ty tv:TE):TS:=λD σ H=>tv σ H λv H1=>td σ H1 λx H2=>ty σ H2 λy H3=>∃ a H4,x=.ref a/\jX H3 a y v H4/\D.nx σ H4
def Ij (td ty tv:TE)(rd:V->V->Hp->VK->Prop):TS:=λD σ H=>td σ H λx H1=>ty σ H1 λy H2=>∃ a v,x=.ref a/\fE H2 a y (some v) /\
 tv σ H2 λy2 H3=>rd v y2 H3 λz H4=>∃ H5,jX H4 a y z H5/\D.nx σ H5
def Ii (td ty:TE):TS:=λD σ H=>td σ H λx H1=>ty σ H1 λy H2=>∃ a kvs k,x=.ref a/\H2 a=some (.dK kvs)/\y=kV k/\(b9 kvs k).isSome=true/\D.nx σ (upd H2 a (.dK (nG kvs k)))
section
variable {X:Cx}{o i e value:Expr}{pos pos' tpos:Pos}{td ty tv:TE}
theorem BD (hu:X.A.units + 1 < cLine)(ho:PE X o td)(hi:PE X i ty)(hs:EQ i):PE X (.Subscript o i pos) (GB td ty):=by
 intro pins s σ H Q I h
 refine GM PySem.F.slot_dict_getitem.lookup hs (aZ (ho pins s σ H _ I h) λu s1 ⟨x,H1,I1,rx,q1⟩=>aZ (hi pins s1 σ H1 _ I1 q1) λiv s2 ⟨y,H2,I2,ry,a,v,ex,g,q2⟩=>?_)
 subst ex
 obtain rfl:u=Value.ref a:=rx
 exact⟨MY I2 g,DT hu I2 g ry λw' s3 I3 rw'=>⟨v,H2,I3,rw',q2⟩⟩
theorem xT (hu:X.A.units + 1 < cLine)(hi:PE X i ty)(ho:PE X o td):PC X .NotIn i o (G7 ty td):=by
 intro pins s σ H Q I h
 refine aZ (hi pins s σ H _ I h) λiv s1 ⟨y,H1,I1,ry,q1⟩=>aZ (ho pins s1 σ H1 _ I1 q1) λu s2 ⟨x,H2,I2,rx,a,ov,ex,g,q2⟩=>?_
 subst ex
 obtain rfl:u=Value.ref a:=rx
 exact Mf hu I2 g ry λs3 I3=>⟨.bl (!ov.isSome),H2,I3,rfl,q2⟩
theorem xN (hu:X.A.units + 1 < cLine)(ho:PE X o td)(hi:PE X i ty)(hv:PE X value tv)(hs:swapsWith value (some (.Subscript o i pos')) pos.line X.env=pure false) :
  PS X (.Assign [.Subscript o i pos'] value pos) (Ih td ty tv):=by
 intro pins s σ H D I h
 refine wpAny_Assign_Subscript (aZ (hv pins s σ H _ I h) λr s1 ⟨v,H1,I1,rv,q1⟩=>aZ (ho pins s1 σ H1 _ I1 q1) λu s2 ⟨x,H2,I2,rx,q2⟩=>aZ (hi pins s2 σ H2 _ I2 q2) λiv s3 ⟨y,H3,I3,ry,a,H4,ex,g,q3⟩=>?_) hs
 subst ex
 obtain rfl:u=Value.ref a:=rx
 exact DS hu I3 g ry rv λs4 I4=>⟨σ,H4,I4,q3⟩
theorem J8 {op:Operator}{rd:V->V->Hp->VK->Prop}(hu:X.A.units + 1 < cLine)(ho:PE X o td)(hi:PE X i ty)(hv:PE X value tv)(hop:Ez X op rd)
  (ha:∀ ov iv new,augStore i ov iv new=(do holding [new,ov,iv] (setItem ov iv new); release [new,ov,iv] []; pure .next)):PS X (.AugAssign (.Subscript o i tpos) op value pos) (Ij td ty tv rd):=by
 intro pins s σ H D I h
 refine wpAny_AugAssign_SubscriptAny (aZ (ho pins s σ H _ I h) λu s1 ⟨x,H1,I1,rx,q1⟩=>aZ (hi pins s1 σ H1 _ I1 q1) λiv s2 ⟨y,H2,I2,ry,a,v,ex,g,q2⟩=>?_) ha
 subst ex
 obtain rfl:u=Value.ref a:=rx
 refine DT hu I2 g ry λw' s3 I3 rw'=>aZ (hv pins s3 σ H2 _ I3 q2) λw2 s4 ⟨y2,H3,I4,ry2,q3⟩=>aZ (hop pins s4 σ H3 v y2 w' w2 _ I4 rw' ry2 q3) λw3 s5 ⟨z,H4,I5,rz,H5,g5,q4⟩=>?_
 exact DS hu I5 g5 ry rz λs6 I6=>⟨σ,H5,I6,q4⟩
theorem J7 (ho:PE X o td)(hi:PE X i ty):PS X (.Delete [.Subscript o i tpos] pos) (Ii td ty):=by
 intro pins s σ H D I h
 refine wpAny_Delete (wpAny_deleteEach_cons (wpAny_delete_Subscript (aZ (ho pins s σ H _ I h) λu s1 ⟨x,H1,I1,rx,q1⟩=>aZ (hi pins s1 σ H1 _ I1 q1) λiv s2 ⟨y,H2,I2,ry,a,kvs,k,ex,e,ey,l,q2⟩=>?_)))
 subst ex ey
 obtain rfl:u=Value.ref a:=rx
 exact Mh I2 e ry l λs3 I3=>wpAny_deleteEach_nil ⟨σ,_,I3,q2⟩
end
theorem MV {P:Program}{w:World}{H:Hp}(h:Heap)(hb:sysModules < h.objs.size):dL P w H (h.push { cls:=.type "dict",data:=.dict #[] }) h.objs.size (.dK []) :=
 ⟨bX _,pH.mpr (fB (cQ hb)),[],.nil,Heap.DictOf.new h⟩
theorem MR {P:Program}{w:World}{H:Hp}(h:Heap)(hb:sysModules < h.objs.size):dL P w H (h.push { cls:=.type "dict",data:=.dict #[] }) h.objs.size (.dT []) :=
 ⟨bX _,pH.mpr (fB (cQ hb)),[],.nil,_,#[],0,fD _ rfl,⟨rfl,rfl,rfl⟩,rfl,rfl,List.nodup_nil⟩
def G9:TE:=λ_ H Q=>∀ p,H p=none->Q (.ref p) (upd H p (.dK []))
def G8:TE:=λ_ H Q=>∀ p,H p=none->Q (.ref p) (upd H p (.dT []))
section
variable {X:Cx}{pos:Pos}
theorem BB:PE X (.Dict [] [] pos) G9:=λpins s σ H Q I h =>
 wpAny_Dict_empty ⟨.ref s.heap.objs.size,_,I.laid (a:=s.heap.objs.size) (o:=.dK []) (t':=s.toks) (λ_ _ q=>bj _ q) (aY _) (MV s.heap I.big),rfl,h _ (I.hok.fresh (aY _))⟩
theorem BA:PE X (.Dict [] [] pos) G8:=λpins s σ H Q I h =>
 wpAny_Dict_empty ⟨.ref s.heap.objs.size,_,I.laid (a:=s.heap.objs.size) (o:=.dT []) (t':=s.toks) (λ_ _ q=>bj _ q) (aY _) (MR s.heap I.big),rfl,h _ (I.hok.fresh (aY _))⟩
end
def ir (kvs more:List (aQ×V)):List (aQ×V):=more.foldl (λacc kv=>dC acc kv.1 kv.2) kvs
theorem KV.merge:∀{more:List (aQ×V)}{rs:List (aQ×Value)}{kvs:List (aQ×V)}{vs:List (aQ×Value)},KV more rs->KV kvs vs->KV (ir kvs more) (merged vs rs):=by
 intro more rs kvs vs r
 unfold KV at r
 induction r generalizing kvs vs with
 | nil=>intro q; exact q
 | @cons p q ps qs h t ih =>
  intro r0
  have e:KV (dC kvs p.1 p.2) (stored vs q.1 q.2):=by
   have:=r0.put p.1 h.2
   rw[<- h.1]; exact this
  exact ih e
structure M1 (X:Cx) (o:Expr) (m:Str) (apos:Pos) (e:Expr) (cpos:Pos):Prop where
 base:attributeBase o m X.env (eval o X.env)=eval o X.env
 few:((backTo cpos (starEach [e] X.env)).all (λx=>!x.1) && (backToKw cpos (keywordEach [] X.env)).all (λx=>x.1.isSome)
  && decide (([e]:List Expr).length + ([]:List Keyword).length + (if ([]:List Keyword).isEmpty then 0 else 1) < 30))=true
 line:(apos.endLine == cpos.line)=true
 trees:backTo cpos (starEach [e] X.env)=[(false,eval e X.env)]
structure M2 (X:Cx) (o:Expr) (m:Str) (apos:Pos) (e f:Expr) (cpos:Pos):Prop where
 base:attributeBase o m X.env (eval o X.env)=eval o X.env
 few:((backTo cpos (starEach [e,f] X.env)).all (λx=>!x.1) && (backToKw cpos (keywordEach [] X.env)).all (λx=>x.1.isSome)
  && decide (([e,f]:List Expr).length + ([]:List Keyword).length + (if ([]:List Keyword).isEmpty then 0 else 1) < 30))=true
 line:(apos.endLine == cpos.line)=true
 trees:backTo cpos (starEach [e,f] X.env)=[(false,eval e X.env),(false,eval f X.env)]
def IsD (H:Hp)(a:Addr):Prop:=(∃ kvs,Rd H a (.dK kvs))∨∃ kvs,Rd H a (.dT kvs)
theorem Lh {X:Cx}{pins:List (Addr×Obj)}{σ:St}{H:Hp}{s:Shared}{a:Addr}(I:Inv X pins σ H s)(d:IsD H a) :
  s.TypeIs (.ref a) "dict" /\ (∀ b,Value.ref a=.ref b->∃ ob,s.heap.get? b=some ob/\ob.dict=none)/\(a == sysModules)=false:=by
 rcases d with⟨kvs,e⟩ | ⟨kvs,e⟩
 ·obtain⟨_,hd,vs,_,dd⟩:=pF I.hok e
  refine⟨dd.typeIs,λb q=>?_,hd⟩
  cases q
  obtain⟨ob,_,_,h1,h2,_⟩:=dd
  exact⟨ob,h1,h2.2.1⟩
 ·obtain⟨_,hd,xs,_,dd⟩:=pE I.hok e
  refine⟨dd.typeIs,λb q=>?_,hd⟩
  cases q
  obtain⟨ob,_,_,h1,h2,_⟩:=dd
  exact⟨ob,h1,h2.2.1⟩
section
variable {X:Cx}{pins:List (Addr×Obj)}{σ:St}{H:Hp}{s:Shared}{a:Addr}{y d:V}{u r:Value}{o:Option V}{A:Around}{E:Value->Shared->Prop}
theorem Mg {Q:Value->Shared->Prop}(hu:A.units + 1 < cLine)(I:Inv X pins σ H s)(g:fE H a y o)(ry:RelV y u)(rd:RelV d r)(h:∀ w' s',Inv X pins σ H s'->RelV (o.getD d) w'->Q w' s') :
  wpAny (model X.prog X.w) A (call (.builtin "dict.get") [.ref a,u,r]) Q E s:=by
 rcases g with⟨kvs,k,e,ey,l⟩ | ⟨kvs,k,b,e,ey,eb,l⟩
 ·subst ey
  obtain⟨z,hd,vs,rel,dd⟩:=pF I.hok e
  refine call_meetsIn PySem.F.slot_dict_get dd.typeIs PySem.F.entry_dict_get (PySem.F.args_dict_get_3 _ _ _) (meets_dict_get_default (dg X.prog X.w) a (nC ry) hd r) ⟨_,dd.mapOf,h _ _ (I.tok _) ?_⟩
  rw[l]
  exact(rel.val k).getD rd
 ·subst ey
  cases (show u=Value.ref b from ry)
  obtain⟨z,hd,xs,rel,dd⟩:=pE I.hok e
  refine call_meetsIn PySem.F.slot_dict_get dd.typeIs PySem.F.entry_dict_get (PySem.F.args_dict_get_3 _ _ _) (meetsH_dict_get_default (tupleKind (dg X.prog X.w)) a b hd r) ⟨tupleKind_room_in1 hu,k,xs,rK I.hok eb,dd,h _ _ (I.tok _) ?_⟩
  rw[l]
  exact(rel.val k).getD rd
end
def GA (td ty tx:TE):TE:=λσ H Q=>td σ H λx H1=>∃ a,x=.ref a/\IsD H1 a/\ty σ H1 λy H2=>tx σ H2 λz H3=>∃ o,fE H3 a y o/\Q (o.getD z) H3
section
variable {X:Cx}{o e f:Expr}{apos cpos:Pos}{td ty tx:TE}
theorem xS (hu:X.A.units + 1 < cLine) (ho:PE X o td) (he:PE X e ty) (hf:PE X f tx) (m:M2 X o "get" apos e f cpos):PE X (.Call (.Attribute o "get" apos) [e,f] [] cpos) (GA td ty tx):=by
 intro pins s σ H Q I h
 refine wpAny_Call_method m.base m.few m.line PySem.F.plainAttrs_dict PySem.F.slot_dict_get PySem.F.type_dict_get (aZ (ho pins s σ H _ I h) λu s1 ⟨x,H1,I1,rx,a,ex,d,q1⟩=>?_)
 subst ex
 obtain rfl:u=Value.ref a:=rx
 obtain⟨t1,t2,_⟩:=Lh I1 d
 refine⟨t1,t2,?_⟩
 rw[m.trees]
 refine Calls.callWith_builtin rfl (Calls.evalArgs_plain (Calls.spliced_cons (aZ (he pins s1 σ H1 _ I1 q1) λiv s2 ⟨y,H2,I2,ry,q2⟩ =>
  Calls.spliced_cons (aZ (hf pins s2 σ H2 _ I2 q2) λfv s3 ⟨z,H3,I3,rz,ov,g,q3⟩=>Calls.spliced_nil ?_))))
 exact Mg hu I3 g ry rz λw' s4 I4 rw'=>⟨_,H3,I4,rw',q3⟩
end
section
variable {X:Cx}{pins:List (Addr×Obj)}{σ:St}{H:Hp}{s:Shared}{a:Addr}{kvs:List (aQ×V)}{A:Around}{E:Value->Shared->Prop}
end
section
variable {X:Cx}{pins:List (Addr×Obj)}{σ:St}{H:Hp}{s:Shared}{a:Addr}{y:V}{u:Value}{A:Around}{E:Value->Shared->Prop}
end
end L2
namespace Att
open PySem PySem.W PySem.Calls PyProof.Rows
theorem Lk {P:Params}{h:Heap}:∀(ns:List Int) (vs:List Value),WellAll P h vs (ns.map WData.int)->IntsAre vs ns:=by
 intro ns
 induction ns with
 | nil =>
  intro vs w
  rw[List.map_nil] at w
  cases w
  exact .nil
 | cons n ns ih =>
  intro vs w
  rw[eU] at w
  cases w with
  | cons a b =>
   cases a
   exact .cons _ _ (ih _ b)
theorem Hj {l:OpenLaw}{n:Nat}(hn:l.most=some n){P:Params}{h:Heap}{args:List WData}{vals:List Value}
  (hpre:l.row.toRowW.claim.pre args=true) (hwl:WellAll P h vals args) :
  ∃ a vs ns,vals=[Value.ref a]/\args=[WData.list (ns.map WData.int)]/\h.get? a=some { cls:=.type "list",data:=.seq vs.toArray }/\IntsAre vs ns/\ns.length<=n:=by
 have hsh:WShape.hasAll [] args [.list .int]=true:=(pre_splitW hpre).1
 have hc:l.pre.holds [] { args:=args }=true:=(pre_splitW hpre).2
 obtain⟨d,r,rfl,h1,h2⟩:=hasAllW_cons hsh
 obtain rfl:=hasAllW_nil h2
 obtain⟨xs,rfl,h3⟩:=hasW_list h1
 obtain⟨ns,rfl⟩:=items_int h3
 have hlen:ns.length<=n:=by
  unfold OpenLaw.pre at hc
  have h4:(WTm.not (.lt (.lit (.int (n:Int))) (.len (.arg 0)))).holds [] { args:=[.list (ns.map .int)] }=true:=by
   have h4:=(holds_andW hc).1
   rw[hn] at h4
   exact h4
  have h5:=condW_of h4 (w_not (w_lt w_lit (w_len_list (w_arg rfl))))
  rw[aI] at h5
  refine Nat.le_of_not_lt λq=>?_
  have q':(n:Int) < ((ns.length:Nat):Int):=by omega
  first
   | (rw[bR q'] at h5; exact absurd h5 (by decide))
   | (simp at h5; omega)
 cases hwl with
 | cons w1 w2 =>
  cases w2
  cases w1 with
  | list ho hall=>exact⟨_,_,ns,rfl,rfl,ho,Lk ns _ hall,hlen⟩
theorem JE (l:OpenLaw)(args:List WData):l.row.toRowW.claim.post args (.bool true) args=true :=
 postW_of (r:=l.row.toRowW) (X:=(true == true))
  (show WShape.has [] (.bool true) .bool=true by first | rfl | decide | simp[WShape.has,WShape.arms,WShape.armsAll])
  (show(WTm.eq .res (.lit (.bool true))).value [] { args:=args,res:=some (.bool true),after:=args }=some (.bool (true == true)) from w_eq_bool (w_res rfl) w_lit) rfl
theorem attach_call {l:OpenLaw}{n:Nat}{q:Program}{loose:List Str}{XP:(Str->Option Value)->Heap->Prop}{YP:World->Heap->Prop}{d:DefRec}
  (hn:l.most=some n) (hdf:d.params.defaults=[])
  (call:∀(w:World) (s₀ s₁:Shared) (mg mb:Str->Option Value) (fa:Addr) (o:Obj) (pm cd doc:Value) (a:Addr) (vs:List Value) (ns:List Int),
   Ground q loose [] XP w s₀ mg mb s₁.heap->YP w s₁.heap ->
   s₁.heap.get? fa=some o->o.data=.func (docDef d.name d.params d.body d.scope pm cd doc)->s₁.heap.CodeRec cd d.name->mg d.name=some (.ref fa) ->
   s₁.heap.get? a=some { cls:=.type "list",data:=.seq vs.toArray }->IntsAre vs ns->ns.length<=n->s₁.gens = #[] ->
   codeAny (model l.prog w) callerA (.call (.ref fa) ⟨[.ref a],[]⟩) (λr s'=>r=.ok (.ret (.bool true))/\OldK s₁.heap s'.heap/\s'.os=s₁.os/\AllBare s'.gens) s₁) :
  WalkO q loose XP YP l.row.toRowW d [] (λf vs=>PySem.call f vs):=by
 intro w s₀ s₁ mg mb G Y fa o pm cd doc dV kV ho hd hcd hD hmg hg args vals as hpre hlay hrd hwl hlo
 obtain rfl:dV=.none:=Dflts.none hD hdf
 obtain rfl:kV=.none:=Dflts.noKw hD
 obtain⟨a,vs,ns,rfl,rfl,hobj,hints,hlen⟩:=Hj hn hpre hwl
 refine enter_call (codeAny_mono (call w s₀ s₁ mg mb fa o pm cd doc a vs ns G Y ho (fd_plain hd) hcd hmg hobj hints hlen hg) λr s' hq=>?_)
 obtain⟨rfl,h2,h3,h4⟩:=hq
 exact⟨.inl ⟨.bool true,.bool true,[],rfl,λ_=>rfl,.bool true,JE l _,λ_=>⟨List.Pairwise.nil,λ_ hm=>(nomatch hm)⟩⟩,h2,h3,h4⟩
section
variable {prog:Program}{w:World}{A:Around}{E:Value->Shared->Prop}{s:Shared}{K:Frag}
end
end Att
namespace L2
open PySem PySem.Spec PyProof.Rows
theorem zP:∀{vs:List Value}{ns:List Int},IntsAre vs ns->ai (ns.map V.int) vs
 | _,_,.nil=>.nil
 | _,_,.cons n t h=>.cons ⟨t,rfl⟩ (zP h)
def yn (H:Hp):Prop:=∀ b,H b=none∨∃ o xs,H b=some (.frz o (.lst xs))
theorem LR {P:Program}{w:World}{K:PySem.W.Frag}{mg mb:Str->Option Value}{CX:gz}{k:Nat}{fa a:Addr}{fd:FuncData}{x:Str}{sp:Sp}{s₁:Shared}{vs:List Value}{ns:List Int}
  (KX:K.In s₁.heap) (hns:s₁.heap.Ns mainGlobals mg) (hb:s₁.heap.Ns builtinsNs mb) (hbb:∀ x:Str,x ≠ "__name__" -> mb x=bootBuiltins x) (hlim:s₁.heap.NoLimit) (hg:s₁.gens = #[])
  (ha:s₁.heap.get? a=some { cls:=.type "list",data:=.seq vs.toArray }) (hi:IntsAre vs ns) (hl:ns.length<=sizeLine) (hr:dJ k callerA)
  (F:∀ base:Heap,K.In base->base.Ns mainGlobals mg->aG P w K mg base CX k fa fd [x] sp) (hbind:∀(s:Shared) (u:Value),BindsTo s fd ⟨[u],[]⟩ [(x,u)])
  (hsp:∀ H:Hp,yn H->aD K H a (ns.map V.int)->sp [.ref a] H (λv _=>v=.bl true) λ_ _ _=>False)
  (hCX:∀ H e s',CX [] H s₁ (λ_ _ _=>False) e s'->False) :
  codeAny (model P w) callerA (.call (.ref fa) ⟨[.ref a],[]⟩) (λr s'=>r=.ok (.ret (.bool true))/\OldK s₁.heap s'.heap/\s'.os=s₁.os/\AllBare s'.gens) s₁:=by
 have rv:=zP hi
 have lenV:=hi.length
 have core:∀ H:Hp,yn H->aD K H a (ns.map V.int)->cj P w H s₁.heap->(∀ b,H b≠none->b=a)->(H a≠none->K.lookup a=none) ->
   codeAny (model P w) callerA (.call (.ref fa) ⟨[.ref a],[]⟩) (λr s'=>r=.ok (.ret (.bool true))/\OldK s₁.heap s'.heap/\s'.os=s₁.os/\AllBare s'.gens) s₁:=by
  intro H hO hS hok hA hK
  have base_of:∀{b:Addr} {o:Obj},s₁.heap.get? b=some o->H b=none->(kW s₁.heap H).get? b=some o:=λe n=>M3 e n
  have noA:∀{b:Addr} {o:Obj} {es:Array DictEntry} {ep:Nat},s₁.heap.get? b=some o->o.data=.dict es ep->H b=none:=λ{b o es ep} e d=>by
   cases q:H b with
   | none=>rfl
   | some u =>
    have e':b=a:=hA b (by rw[q]; simp)
    subst e'
    rw[ha] at e; cases e
    have d':Data.seq vs.toArray _=Data.dict es ep:=d
    cases d'
  have nsK:∀{b:Addr} {m:Str->Option Value},s₁.heap.Ns b m->(kW s₁.heap H).Ns b m:=λ{b m} ⟨o,es,ep,e,d,r⟩=>⟨o,es,ep,base_of e (noA e d),d,r⟩
  have hKb:K.In (kW s₁.heap H):=λb o e=>base_of (KX b o e) (by
   cases q:H b with
   | none=>rfl
   | some u =>
    have e':b=a:=hA b (by rw[q]; simp)
    subst e'
    rw[hK (by rw[q]; simp)] at e; cases e)
  have hM:Mod K mg (kW s₁.heap H):=⟨hKb,nsK hns,⟨mb,nsK hb,hbb⟩,let ⟨mc,h1,h2⟩:=hlim; ⟨mc,nsK h1,h2⟩⟩
  have e0:o7 P w K mg (kW s₁.heap H) callerA [] s₁ H:=⟨rfl,hM,λb o e=>KH e,Nat.le_of_eq (Lz _ _),trivial,λb hb=>absurd (show b∈([]:List Addr) from hb) (by simp),hok,.of_eq hg⟩
  refine codeAny_mono ((F _ hKb (nsK hns)).run callerA [] s₁ H ⟨[.ref a],[]⟩ [.ref a] [.ref a] _ _ hr e0 (hbind s₁ (.ref a)) (.cons rfl .nil) (hsp H hO hS)) λr s' h=>?_
  cases r with
  | error e=>exact(hCX H e s' h).elim
  | ok fl =>
   cases fl with
   | next=>exact False.elim h
   | brk=>exact False.elim h
   | cont=>exact False.elim h
   | ret u =>
    obtain⟨v,H',os,bare,un,hok',r',q⟩:=h
    have q':v=.bl true:=q
    subst q'
    obtain rfl:u=Value.bool true:=r'
    refine⟨rfl,OldK.of_keep λb o e=>?_,os,bare⟩
    cases q:H b with
    | none=>exact un.keep b o e q (by intro z; exact absurd (show b∈([]:List Addr) from z) (by simp)) (by simp)
    | some u =>
     rcases hO b with z | ⟨ob,xs,z⟩
     ·rw[q] at z; cases z
     ·have z2:=un.frzs b ob _ z
      obtain⟨e1,_⟩:=hok b _ z
      obtain⟨e2,_⟩:=hok' b _ z2
      rw[e] at e1; cases e1
      exact e2
 cases hk:K.lookup a with
 | some o =>
  have e:=KX a o hk
  rw[ha] at e
  cases e
  refine core (λ_=>none) (λ_=>.inl rfl) (.inr ⟨_,vs.toArray,_,hk,rfl,rfl,rfl,by rw[fX,lenV]; exact hl,by simpa using rv⟩) (λb u z=>by have z':(none:Option HO)=some u:=z; cases z') (λb z=>absurd rfl z) λz=>absurd rfl z
 | none =>
  refine core (λb=>if b=a then some (.frz { cls:=.type "list",data:=.seq vs.toArray } (.lst (ns.map V.int))) else none) (λb=>?_) (.inl (.inr ⟨{ cls:=.type "list",data:=.seq vs.toArray },aP rfl⟩)) (λb u z=>?_) (λb z=>?_) λ_=>hk
  ·by_cases hb:b=a
   ·exact .inr ⟨_,_,aP hb⟩
   ·exact .inl (aN hb)
  ·by_cases hb:b=a
   ·have z':=(aP hb).symm.trans z
    cases z'
    subst hb
    exact⟨ha,by rw[aI]; exact hl,vs,_,rv,ha⟩
   ·have z':=(aN hb).symm.trans z
    cases z'
  ·by_cases hb:b=a
   ·exact hb
   ·exact absurd (aN hb) z
theorem walk_of {l:PySem.W.OpenLaw}{n k:Nat}{q:Program}{loose:List Str}{XP:(Str->Option Value)->Heap->Prop}{YP:World->Heap->Prop}{d:DefRec}{K:Params->PySem.W.Frag}{CX:World->gz}{sp:World->Sp}{x:Str}
  (hn:l.most=some n) (hn2:n<=sizeLine) (hdf:d.params.defaults=[]) (hr:dJ k callerA)
  (hY:∀(w:World) (h:Heap),YP w h->(K w.params).In h)
  (F:∀(w:World) (mg:Str->Option Value) (fa:Addr) (h:Heap),(K w.params).In h->h.Ns mainGlobals mg->mg d.name=some (.ref fa) ->
   ∃ fd:FuncData,(∀(s:Shared) (u:Value),BindsTo s fd ⟨[u],[]⟩ [(x,u)]) /\
    ∀ base:Heap,(K w.params).In base->base.Ns mainGlobals mg->aG l.prog w (K w.params) mg base (CX w) k fa fd [x] (sp w))
  (hsp:∀(w:World) (H:Hp) (a:Addr) (ns:List Int),ns.length<=n->yn H->aD (K w.params) H a (ns.map V.int)->sp w [.ref a] H (λv _=>v=.bl true) λ_ _ _=>False)
  (hCX:∀(w:World) (H:Hp) (s:Shared) (e:Value) (s':Shared),CX w [] H s (λ_ _ _=>False) e s'->False) :
  PySem.W.WalkO q loose XP YP l.row.toRowW d [] (λf vs=>PySem.call f vs):=by
 refine Att.attach_call hn hdf λw s₀ s₁ mg mb fa o pm cd doc a vs ns G Y ho hd hcd hmg hobj hints hlen hg=>?_
 have KX:=hY w _ Y
 obtain⟨fd,hb,hF⟩:=F w mg fa _ KX G.T.g hmg
 exact LR KX G.T.g G.T.b G.T.builtins G.T.nolimit hg hobj hints (b8 hlen hn2) hr hF hb (λH hO hS=>hsp w H a ns hlen hO hS) λH e s'=>hCX w H s₁ e s'
def pD (s:Stmt)(j:Nat):Stmt:=match s with
 | .ClassDef _ _ _ body _ _ _ _ _ _ _=>body.getD j (.Pass ⟨0,0,0,0⟩)
 | _=>.Pass ⟨0,0,0,0⟩
def hZ (s:Stmt):Arguments:=match s with
 | .FunctionDef _ a _ _ _ _ _ _ _ _=>a
 | _=>{ posonlyargs:=[],args:=[],vararg:=none,kwonlyargs:=[],kw_defaults:=[],kwarg:=none,defaults:=[] }
def dH (s:Stmt):List Stmt:=match s with
 | .FunctionDef _ _ b _ _ _ _ _ _ _=>b
 | _=>[]
def aS (s:Stmt):Scope:=match s with
 | .FunctionDef _ _ _ _ _ _ sc _ _ _=>sc
 | _=>{ kind:=.function,names:=[],isGenerator:=false,isCoroutine:=false }
abbrev E0:XK:=λ_ _ _=>False
structure ic (K:PySem.W.Frag) (x qual:Str) (st:Stmt) (f:Addr) (fd:FuncData):Prop where
 ex:∃(oc:Value) (od:Option Addr) (kV doc pm:Value) (an:Option Addr) (cdv ct:Value) (osl:Array (Option Value)),
  fd=PySem.W.fnOf x qual (hZ st) (dH st) (aS st) .none kV doc pm an cdv ct/\K.lookup f=some ⟨oc,od,.func fd,osl⟩/\PySem.W.codeIn K cdv qual=true
 kp:PySem.W.keepIn K (.ref f)=true
section
variable {CX:gz}{P:Program}{w:World}{K:PySem.W.Frag}{mg:Str->Option Value}{base:Heap}{k:Nat}{f c:Addr}{qual:Str}{params:Arguments}{body:Expr}{scope:Scope}{cl:List (Str×Addr)}{pm ctv:Value}{N:List Str}{σ:St}{sp:Sp}
theorem ic.binds {x qual:Str}{st:Stmt}{f:Addr}{fd:FuncData}{ps:List Str}(F:ic K x qual st f fd)
  (h:∀(kV doc pm:Value) (an:Option Addr) (cdv ct:Value) (us:List Value),us.length=ps.length->bindArgs (PySem.W.fnOf x qual (hZ st) (dH st) (aS st) .none kV doc pm an cdv ct) ⟨us,[]⟩=pure (ps.zip us)):Binds K fd ps []:=by
 obtain⟨oc,od,kV,doc,pm,an,cdv,ct,osl,rfl,lk,hcd⟩:=F.ex
 exact .all (h kV doc pm an cdv ct)
theorem nD {x qual:Str}{st:Stmt}{f:Addr}{oc:Value}{od an:Option Addr}{osl:Array (Option Value)}{kV doc pm cdv ct:Value}(l:K.lookup f=some ⟨oc,od,.func (PySem.W.fnOf x qual (hZ st) (dH st) (aS st) .none kV doc pm an cdv ct),osl⟩)
  (c:PySem.W.codeIn K cdv qual=true) (k:PySem.W.keepIn K (.ref f)=true):ic K x qual st f (PySem.W.fnOf x qual (hZ st) (dH st) (aS st) .none kV doc pm an cdv ct):=⟨⟨oc,od,kV,doc,pm,an,cdv,ct,osl,rfl,l,c⟩,k⟩
end
theorem Hb {n:Nat}(h:n<=1000):n < sizeLine:=cA h (by decide)
section
variable {X:Cx}
theorem pv (i:Nat) {x:Str}{pos:Pos}(hN:X.N[i]? = some x:=by rfl) (hv:yd X.env.scope x:=by first | exact Or.inl rfl | exact Or.inr (Or.inl rfl) | exact Or.inr (Or.inr rfl)) (hd:(x == ("__debug__" : Str))=false:=by decide)
  (hcd:(x == ("__classdict__" : Str))=false:=by decide):PE X (.Name x pos) (fJ i):=JJ hN hv hd hcd
end
theorem aW {A B:Prop}(h:B):if false=true then A else B:=by
 rw[aN dN]
 exact h
theorem ax {A B:Prop}(h:A):if true=true then A else B:=by
 rw[aP rfl]
 exact h
theorem bG {c A B:Prop}[Decidable c](h1:c->A)(h2:¬ c->B):if c then A else B:=by
 by_cases h:c
 ·rw[aP h]
  exact h1 h
 ·rw[aN h]
  exact h2 h
def aB (H H':Hp):Prop:=∀ b o,H b=some o->H' b=some o
theorem aB.refl (H:Hp):aB H H:=λ_ _ h=>h
theorem aB.seq {K:PySem.W.Frag}{H H':Hp}{a:Addr}{xs:List V}(e:aB H H')(h:aD K H a xs):aD K H' a xs:=by
 rcases h with(h | ⟨o,h⟩) | h
 ·exact .inl (.inl (e _ _ h))
 ·exact .inl (.inr ⟨o,e _ _ h⟩)
 ·exact .inr h
section
variable {κ:Type} [DecidableEq κ]
theorem FK {kvs:List (κ×V)}{k:κ}(h:b9 kvs k=none):¬ k∈kvs.map (·.1):=by
 intro m
 obtain⟨p,hp,e⟩:=cI.mp m
 have q:(kvs.any λkv=>decide (kv.1=k))=true:=List.any_eq_true.mpr ⟨p,hp,bR e⟩
 rw[oC,h] at q
 exact absurd q (by simp)
theorem FL {kvs:List (κ×V)}{k:κ}{v:V}(h:b9 kvs k=some v):k∈kvs.map (·.1):=by
 have q:(kvs.any λkv=>decide (kv.1=k))=true:=by
  rw[oC,h]
  all_goals rfl
 obtain⟨p,hp,e⟩:=List.any_eq_true.mp q
 exact cI.mpr ⟨p,hp,cw e⟩
end
def kg (env:Env):List (Str×NameKind)->List (Str×Addr)->List (Str×Addr)
 | [],cs=>cs
 | (n,k) :: r,cs=>kg env r (if k=NameKind.free then (n,(env.cells.lookup n).getD 0) :: cs else cs)
def gL (scope:Scope)(env:Env):List (Str×Addr):=kg env scope.names []
def y9 (scope:Scope)(env:Env):Bool:=scope.names.all λp=>p.2 != NameKind.free || (env.kindOf p.1 == some NameKind.cell || env.kindOf p.1 == some NameKind.free)
theorem yN {env:Env}:∀(l:List (Str×NameKind)) (cs:List (Str×Addr)),(∀ p∈l,p.2=NameKind.free->∃ c,env.cells.lookup p.1=some c) ->
  (forIn l cs λ(x:Str×NameKind) (r:List (Str×Addr)) =>
   (if (x.2 == NameKind.free)=true then (do let c <- cellOf env x.1; pure (ForInStep.yield ((x.1,c) :: r))) else pure (ForInStep.yield r):Sem (ForInStep (List (Str×Addr)))))=pure (kg env l cs)
 | [],cs,_=>rfl
 | (n,k) :: r,cs,h=>by
  rw[List.forIn_cons]
  by_cases e:k=NameKind.free
  ·subst e
   obtain⟨c,hc⟩:=h (n,.free) eJ rfl
   have hc':env.cells.lookup n=some c:=hc
   have q:cellOf env n=pure c:=by unfold cellOf; rw[hc']
   simp only[iH,jM,q,pure_bind]
   rw[yN r _ λp hp=>h p (dy _ hp)]
   simp[kg,hc']
  ·have e':(k == NameKind.free)=false:=by simpa using e
   simp only[e',mN,iw,pure_bind]
   rw[yN r _ λp hp=>h p (dy _ hp)]
   simp[kg,e]
theorem rY {scope:Scope}{env:Env}(h:∀ p∈scope.names,p.2=NameKind.free->∃ c,env.cells.lookup p.1=some c):closureFor scope env=pure (gL scope env):=by
 have q:=yN (env:=env) scope.names [] h
 have e:closureFor scope env=((forIn scope.names [] λ(x:Str×NameKind) (r:List (Str×Addr)) =>
   (if (x.2 == NameKind.free)=true then (do let c <- cellOf env x.1; pure (ForInStep.yield ((x.1,c) :: r))) else pure (ForInStep.yield r):Sem (ForInStep (List (Str×Addr))))) >>= λcs=>pure cs):=rfl
 rw[e,q,pure_bind]
 rfl
theorem rZ {env:Env}{x:Str}{c:Addr}(hc:env.cells.lookup x=some c):∀(l:List (Str×NameKind)) (cs:List (Str×Addr)),
  ((x,NameKind.free)∈l∨cs.lookup x=some c)->(kg env l cs).lookup x=some c
 | [],cs,h=>by
  rcases h with h | h
  ·exact absurd h (by simp)
  ·exact h
 | (n,k) :: r,cs,h=>by
  show(kg env r _).lookup x=some c
  refine rZ hc r _ ?_
  rcases h with h | h
  ·rcases bh.mp h with e | e
   ·cases e
    refine .inr ?_
    rw[aP rfl,iK,hc]
    simp
   ·exact .inl e
  ·refine .inr ?_
   by_cases e:k=NameKind.free
   ·rw[aP e,iK]
    by_cases en:x=n
    ·subst en; simp[hc]
    ·have:(x == n)=false:=by simpa using en
     rw[this]; exact h
   ·rw[aN e]; exact h
theorem yO {env:Env}{x:Str}{c:Addr}:∀(l:List (Str×NameKind)) (cs:List (Str×Addr)),
  (∀ p∈l,p.2=NameKind.free->∃ c,env.cells.lookup p.1=some c)->(kg env l cs).lookup x=some c->env.cells.lookup x=some c/\(x,NameKind.free)∈l∨cs.lookup x=some c
 | [],cs,_,h=>.inr h
 | (n,k) :: r,cs,hl,h=>by
  have h:(kg env r (if k=NameKind.free then (n,(env.cells.lookup n).getD 0) :: cs else cs)).lookup x=some c:=h
  rcases yO r _ (λp hp=>hl p (dy _ hp)) h with⟨a,b⟩ | q
  ·exact .inl ⟨a,dy _ b⟩
  ·by_cases e:k=NameKind.free
   ·rw[aP e,iK] at q
    by_cases en:x=n
    ·subst en
     subst e
     obtain⟨c',hc'⟩:=hl (x,.free) eJ rfl
     have hc':env.cells.lookup x=some c':=hc'
     rw[hc'] at q
     simp at q
     subst q
     exact .inl ⟨hc',eJ⟩
    ·have:(x == n)=false:=by simpa using en
     rw[this] at q
     exact .inr q
   ·rw[aN e] at q
    exact .inr q
theorem vn {scope:Scope}{env:Env}(h:y9 scope env=true){p:Str×NameKind}(hp:p∈scope.names)(hf:p.2=NameKind.free):env.kindOf p.1=some NameKind.cell∨env.kindOf p.1=some NameKind.free:=by
 have q:=jU.mp h p hp
 rw[hf] at q
 simpa using q
def cP (X:Cx)(scope:Scope)(N':List Str)(s:Shared)(H:Hp)(C:Addr)(fp:List Addr):Cx :=
 { X with N:=N',s₀:=s,H₀:=H,env:=compEnvC scope (gL scope X.env) C X.env,outer:=X.stack,ex:=fp,fn:=λ_=>false,pn:=[],xe:=λ_ _=>False }
def seeσ (fm:List (Option Nat))(σ:St):St:=fm.map λo=>o.bind λi=>(σ[i]?).join
structure jY (X:Cx) (scope:Scope) (N':List Str) (fm:List (Option Nat)):Prop where
 kind:scope.kind=.function
 cell:∀ y∈scope.names,y.2≠.cell
 names:∀ y∈scope.names,y.2=.local->scope.names.lookup y.1=some .local
 free:y9 scope X.env=true
 len:N'.length=fm.length
 map:((N'.zip fm).all λp=>match p.2 with | none=>true | some i=>(X.N[i]? == some p.1) && (scope.names.lookup p.1 == some NameKind.free))=true
theorem rG {env:Env}{k:NameKind}{x:Str}:∀{names:List (Str×NameKind)},(names.map λ(n,k)=>if (k == NameKind.free && env.scope.kind == .function && env.kindOf n == some .cell) then (n,NameKind.cell) else (n,k)).lookup x=some k ->
  names.lookup x=some k∨(names.lookup x=some NameKind.free/\k=NameKind.cell)
 | [],h=>by simp at h
 | (n,j) :: r,h=>by
  have ih:=@rG env k x r
  have h:List.lookup x ((if (j == NameKind.free && env.scope.kind == .function && env.kindOf n == some .cell)=true then (n,NameKind.cell) else (n,j)) :: (r.map λ(n,k)=>if (k == NameKind.free && env.scope.kind == .function && env.kindOf n == some .cell) then (n,NameKind.cell) else (n,k)))=some k:=h
  by_cases hc:(j == NameKind.free && env.scope.kind == .function && env.kindOf n == some .cell)=true
  ·rw[aP hc,iK] at h
   rw[iK]
   cases hx:x == n with
   | true =>
    rw[hx] at h
    simp at h
    refine .inr ⟨?_,h.symm⟩
    have:(j == NameKind.free)=true:=by
     simp only[gE] at hc
     exact hc.1.1
    have e:j=NameKind.free:=by simpa using this
    rw[e]
   | false =>
    rw[hx] at h
    exact ih h
  ·rw[aN hc,iK] at h
   rw[iK]
   cases hx:x == n with
   | true=>rw[hx] at h; exact .inl h
   | false=>rw[hx] at h; exact ih h
theorem xF {env:Env}{x:Str}:∀{names:List (Str×NameKind)},names.lookup x=some NameKind.free ->
  (names.map λ(n,k)=>if (k == NameKind.free && env.scope.kind == .function && env.kindOf n == some .cell) then (n,NameKind.cell) else (n,k)).lookup x=some .cell ∨
  (names.map λ(n,k)=>if (k == NameKind.free && env.scope.kind == .function && env.kindOf n == some .cell) then (n,NameKind.cell) else (n,k)).lookup x=some .free
 | [],h=>by simp at h
 | (n,j) :: r,h=>by
  have ih:=@xF env x r
  show List.lookup x ((if (j == NameKind.free && env.scope.kind == .function && env.kindOf n == some .cell)=true then (n,NameKind.cell) else (n,j)) :: _)=_∨List.lookup x ((if (j == NameKind.free && env.scope.kind == .function && env.kindOf n == some .cell)=true then (n,NameKind.cell) else (n,j)) :: _)=_
  rw[iK] at h
  cases hx:x == n with
  | true =>
   rw[hx] at h
   have e:j=NameKind.free:=by simpa using h
   by_cases hc:(j == NameKind.free && env.scope.kind == .function && env.kindOf n == some .cell)=true
   ·rw[aP hc]; exact .inl (by rw[iK,hx])
   ·rw[aN hc]; exact .inr (by rw[iK,hx,e])
  | false =>
   rw[hx] at h
   by_cases hc:(j == NameKind.free && env.scope.kind == .function && env.kindOf n == some .cell)=true
   ·rw[aP hc,iK,hx]; exact ih h
   ·rw[aN hc,iK,hx]; exact ih h
theorem ly {α:Type}{x:Str}{k:α}:∀{l:List (Str×α)},l.lookup x=some k->(x,k)∈l:=λh=>rj h
section
variable {X:Cx}{pins:List (Addr×Obj)}{σ:St}{H H':Hp}{s:Shared}{scope:Scope}{N':List Str}{fm:List (Option Nat)}{fp:List Addr}{h':Heap}{tk:Nat}
theorem jY.cells (S:jY X scope N' fm)(I:Inv X pins σ H s):∀ p∈scope.names,p.2=NameKind.free->∃ c,X.env.cells.lookup p.1=some c:=λp hp hf=>I.ok.has p.1 (vn S.free hp hf)
theorem jY.look (S:jY X scope N' fm)(I:Inv X pins σ H s){x:Str}{c:Addr}(h:(gL scope X.env).lookup x=some c):X.env.cells.lookup x=some c/\(x,NameKind.free)∈scope.names:=by
 rcases yO scope.names [] (S.cells I) h with q | q
 ·exact q
 ·simp at q
theorem DW (S:jY X scope N' fm)(I:Inv X pins σ H s)(hf:∀ b∈fp,dM X pins H b)(hfs:∀ b∈fp,b < s.heap.objs.size)
  (hn:h'.Ns s.heap.objs.size λ_=>none) (hk:∀ b o,s.heap.get? b=some o->h'.get? b=some o):Inv (cP X scope N' s H s.heap.objs.size fp) [] (seeσ fm σ) H { s with heap:=h',toks:=tk }:=by
 have cl:∀{x c},(gL scope X.env).lookup x=some c->X.env.cells.lookup x=some c/\(x,NameKind.free)∈scope.names:=λh=>S.look I h
 have ltc:∀ x c,X.env.cells.lookup x=some c->c < s.heap.objs.size:=λx c e=>by
  obtain⟨v,q⟩:=I.cell x c e
  exact q.lt
 refine⟨⟨I.ok.mod,?_,I.ok.glob,I.ok.blt,aY _,λx y c h1 h2=>I.ok.inj x y c (cl h1).1 (cl h2).1,λx hx=>?_,λx c h _=>absurd (show false=true from h) (by decide),I.ok.hd,I.ok.frames,.inl rfl,λb hb=>⟨cQ (hfs b hb),λx c e z=>?_⟩,I.bs,b8 I.ok.bsz I.sz,λb o e hb=>?_,λb hb z=>?_,I.stack,I.stkFree⟩,
  rfl,I.bare,Un.kept hk,⟨_,hn,λi x v e1 e2 e3=>?_⟩,λx c e=>?_,I.hok.fresh (aY _),λx c e=>I.freeC x c (cl e).1,λp hp=>absurd (show p∈([]:List (Addr×Obj)) from hp) (by simp),I.hok.kept hk,?_⟩
 ·exact S.kind
 ·-- a cell for each name
  have hx:(relabel scope X.env).names.lookup x=some .cell∨(relabel scope X.env).names.lookup x=some .free:=hx
  have fr:scope.names.lookup x=some .free:=by
   rcases hx with hx | hx
   ·rcases rG hx with q | q
    ·exact absurd rfl (S.cell _ (ly q))
    ·exact q.1
   ·rcases rG hx with q | q
    ·exact q
    ·exact q.1
  have m:=ly fr
  obtain⟨c,hc⟩:=S.cells I (x,.free) m rfl
  exact⟨c,rZ hc _ _ (.inl m)⟩
 ·exact(hf b hb).2.2.2.2.1 x c (cl e).1 z
 ·rcases(hf b hb).2.2.2.1 with z | z
  ·exact I.ok.noex b o e z
  ·exact absurd (gO (bU (I.ok.bs b o e).1) z) (ia _)
 ·rcases bh.mp (I.stkSub b z) with q | q
  ·exact(hf b hb).2.1 q
  ·exact(hf b hb).2.2.1 q
 ·-- a name of the def,seen in the block
  have e1:N'[i]? = some x:=e1
  have il:i < fm.length:=by rw[<- S.len]; exact(cE.mp e1).1
  have ef:fm[i]? = some fm[i]:=by simp[il]
  unfold seeσ at e2
  rw[ar,ef] at e2
  cases q:fm[i] with
  | none=>rw[q] at e2; simp at e2
  | some j =>
   rw[q] at e2 ef
   have e2:(σ[j]?).join=some v:=by simpa using e2
   have e2':σ[j]? = some (some v):=by
    cases z:σ[j]? with
    | none=>rw[z] at e2; simp at e2
    | some w=>rw[z] at e2; simp at e2; rw[e2]
   have mz:(x,some j)∈N'.zip fm:=by
    have:(N'.zip fm)[i]? = some (x,some j):=by rw[yp]; exact⟨e1,ef⟩
    exact bI this
   have ok:=jU.mp S.map _ mz
   simp only[gE,beq_iff_eq] at ok
   have kx:=vn S.free (ly ok.2) rfl
   obtain⟨m,hm,hl⟩:=I.loc
   obtain⟨u,ru,lk⟩:=hl j x v ok.1 e2' (by rcases kx with k | k; exact .inr (.inl k); exact .inr (.inr k))
   refine⟨u,ru,.inr ?_⟩
   rcases lk with⟨k,_⟩ | ⟨_,c,hc,⟨o,ho,hd⟩⟩
   ·rcases kx with z | z
    ·rw[z] at k; cases k
    ·rw[z] at k; cases k
   ·exact⟨xF ok.2,c,rZ hc _ _ (.inl (ly ok.2)),o,hk _ _ ho,hd⟩
 ·obtain⟨v,o,ho,hd⟩:=I.cell x c (cl e).1
  exact⟨v,o,hk _ _ ho,hd⟩
 ·show(seeσ fm σ).length=N'.length
  unfold seeσ
  rw[aI,S.len]
theorem wC {σ':St}{s1 s2:Shared}{p1:List (Addr×Obj)}(I:Inv X pins σ H s)(hf:∀ b∈fp,dM X pins H b)(J:Inv (cP X scope N' s H s.heap.objs.size fp) p1 σ' H' s1)(hs:s2.os=s1.os)(hg:AllBare s2.gens)
  (hh:Heap.SameBut s.heap.objs.size s1.heap s2.heap):Inv X pins σ H' s2:=by
 have un:Un (iE X.stack) fp H H' s.heap s1.heap:=J.base
 have hne:∀ b o,s.heap.get? b=some o->b≠s.heap.objs.size:=λb o e=>cQ (bU e)
 have free':H' s.heap.objs.size=none:=J.free
 refine I.call' (ch:=fp) (hs.trans J.os) ⟨λb o e n hb hx=>?_,λb o e n hb hx=>?_,un.free,λb o e hx=>?_,un.tups,un.frzs,un.tbls⟩ (λb o e=>?_) hg λb hb=>?_
 ·exact(hh.2 b (hne b o e)).trans (un.keep b o e n hb hx)
 ·obtain⟨sl,q⟩:=un.slot b o e n hb hx
  exact⟨sl,(hh.2 b (hne b o e)).trans q⟩
 ·obtain⟨o',q⟩:=un.there b o e hx
  exact⟨o',(hh.2 b (hne b o e)).trans q⟩
 ·refine(J.hok b o e).stay (λc v hc q=>(hh.2 c ?_).trans q) (λ_ q=>q) λ_ _ q=>q
  rintro rfl
  rcases hc with z | z
  ·rw[<- z,free'] at e; cases e
  ·rw[free'] at z; cases z
 ·obtain⟨_,f1,_,f3,f4,f5⟩:=hf b hb
  exact⟨f3,f1,f4,f5⟩
end
def iJ (X:Cx)(ifs:List Expr)(t:TT):Prop :=
 ∀(pins:List (Addr×Obj)) (s:Shared) (σ:St) (H:Hp) (Q:Bool->Hp->Prop),Inv X pins σ H s->t σ H Q ->
  wpAny (model X.prog X.w) X.A (forIn ifs true λc r=>if r=true then do let ok <- isTrue c X.env (eval c X.env); pure (ForInStep.yield ok) else pure (ForInStep.yield r)) (TP X pins σ Q) X.xe s
def mV:TT:=λ_ H Q=>Q true H
theorem cU {X:Cx}:iJ X [] mV:=λ_ _ _ H _ I h=>wpAny_tests_nil ⟨H,I,h⟩
theorem eV {X:Cx}{c:Expr}{t:TT}(h:PT X c t):iJ X [c] t:=λpins s σ H Q I q=>wpAny_tests_one (h pins s σ H Q I q)
def iO (J:It)(p:Addr)(g:TG)(tt:TT)(te:TE)(σ0:St)(H0:Hp)(Q:Hp->Prop):Prop :=
 ∃ W:Nat->Nat->St->Hp->Prop,(∃ m,W 0 m σ0 H0)/\∀ i m σ H,W i m σ H ->
  (J.stop i H/\Q H)∨(J.go i H/\∃ N:St->Hp->Prop,(∀ σ' H',N σ' H'->∃ m',m' < m/\W (i + 1) m' σ' H')/\∀ x H1,J.yld i H x H1->g x σ H1 λσ2 H2=>tt σ2 H2 λb H3 =>
   if b=true then te σ2 H3 λv H4=>∃ ys,H4 p=some (.lst ys)/\ys.length < sizeLine/\N σ2 (upd H4 p (.lst (ys ++ [v])))
   else N σ2 H3)
def GE (fm:List (Option Nat))(wi:TI)(g:TG)(tt:TT)(te:TE):TE:=λσ H Q=>wi σ H λJ H1=>∀ p,H1 p=none ->
 iO J p g tt te (seeσ fm σ) (upd H1 p (.lst [])) λH2=>Q (.ref p) H2
def Au (fm:List (Option Nat))(wi:TI)(g:TG)(tt:TT)(te:TE)(i:Nat):TS:=λD σ H=>wi σ H λJ H1=>∀ p,H1 p=none ->
 iO J p g tt te (seeσ fm σ) (upd H1 p (.lst [])) λH2=>D.nx (σ.set i (some (.ref p))) H2
section
variable {X:Cx}{elt iter tg:Expr}{ifs:List Expr}{scope:Scope}{pos:Pos}{N':List Str}{fm:List (Option Nat)}{wi:TI}{g:TG}{tt:TT}{te:TE}
theorem My {R:Result->Shared->Prop}{pins:List (Addr×Obj)}{σ:St}{H:Hp}{s s1:Shared}{it p C:Addr}{fp:List Addr}{tn:Nat->Heap->Prop}{J:It}{Q:Hp->Prop}{H0:Hp}{σ0:St}
  (hc:X.calm=true) (hg:PG (cP X scope N' s H C fp) tg g) (ht:iJ (cP X scope N' s H C fp) ifs tt) (he:PE (cP X scope N' s H C fp) elt te)
  (T:i5 X.prog X.w X.K tg J fp it tn) (hfp:∀{H':Hp},(∀ b∈fp,H' b=none)->∀ b∈fp,dM (cP X scope N' s H C fp) [] H' b)
  (I:Inv (cP X scope N' s H C fp) [] σ0 H0 s1) (st:tn 0 s1.heap) (hfr:∀ b∈fp,H0 b=none) (blk:iO J p g tt te σ0 H0 Q)
  (hR:∀ σ' H' s',Inv (cP X scope N' s H C fp) [] σ' H' s'->Q H'->R (.ok .next) s') :
  codeAny (model X.prog X.w) X.A (.compLoop (.ListComp elt [⟨tg,iter,ifs,0⟩] scope pos) 0 (.ref it) (.ref p) (compEnvC scope (gL scope X.env) C X.env)) R s1:=by
 obtain⟨W,⟨m0,w0⟩,turn⟩:=blk
 refine codeAny_loop rfl (λn s'=>∃ i σ' H',Inv (cP X scope N' s H C fp) [] σ' H' s'/\tn i s'.heap/\(∀ b∈fp,H' b=none)/\W i n σ' H') (λn s2 hI=>?_) m0 ⟨0,σ0,H0,I,st,hfr,w0⟩
 obtain⟨i,σ2,H2,I2,st2,fr2,w2⟩:=hI
 show wpAny _ X.A ((compTurn (.ListComp elt [⟨tg,iter,ifs,0⟩] scope pos) 0 (.ref it) (.ref p) (compEnvC scope (gL scope X.env) C X.env)).onRaise λx=>do noteFrame x (compEnvC scope (gL scope X.env) C X.env); theTreesLotGoes x) _ _ s2
 refine wpAny_noted ?_
 rw[compTurn_list]
 have lift:∀{α:Type} {t:Sem α} {Q1 Q2:α->Shared->Prop} {E2:Value->Shared->Prop} {s':Shared},wpAny (model X.prog X.w) X.A t Q1 (λ_ _=>False) s'->(∀ a s'',Q1 a s''->Q2 a s'')->wpAny (model X.prog X.w) X.A t Q2 E2 s' :=
  λh k=>fY h k λ_ _ z=>z.elim
 rcases turn i n σ2 H2 w2 with⟨stop,qn⟩ | ⟨go,N,hN,step⟩
 ·refine aE (jA (aE (lift (T.done (cP X scope N' s H C fp) rfl rfl rfl hc i [] s2 σ2 H2 _ I2 (hfp fr2) st2 stop) λr s3 q=>?_)))
  obtain⟨hr,I3⟩:=q
  subst hr
  exact aa (hR σ2 H2 s3 I3 qn)
 ·refine aE (jA (aE (lift (T.item (cP X scope N' s H C fp) rfl rfl rfl hc i [] s2 σ2 H2 _ I2 (hfp fr2) st2 go) λr s3 q=>?_)))
  obtain⟨u,hr,h3⟩:=q
  subst hr
  refine aE (lift h3 λ_ s4 q4=>?_)
  obtain⟨x,H4,I4,r4,y4,st4,fr4⟩:=q4
  have I4':=I4.pinned (hfp fr4) (T.obj _ _ st4)
  refine aE (lift (hg _ s4 σ2 H4 x u _ I4' r4 (step x H4 y4)) λ_ s5 q5=>?_)
  obtain⟨σ5,H5,I5,q5⟩:=q5
  refine aE (lift (ht _ s5 σ5 H5 _ I5 q5) λb s6 q6=>?_)
  obtain⟨H6,I6,q6⟩:=q6
  have again:∀{σ7:St} {H7:Hp} {s7:Shared} {m':Nat},Inv (cP X scope N' s H C fp) ([] ++ kM fp s4.heap) σ7 H7 s7->W (i + 1) m' σ7 H7 ->
    ∃ i σ' H',Inv (cP X scope N' s H C fp) [] σ' H' s7/\tn i s7.heap/\(∀ b∈fp,H' b=none)/\W i m' σ' H':=λ{σ7 H7 s7 m'} I7 w7=>by
   refine⟨i + 1,σ7,H7,I7.unpinned,T.keep _ _ _ st4 λb hb o e=>(I7.pin (b,o) (eK _ (eK _ (lv hb e)))).1,λb hb=>?_,w7⟩
   obtain⟨o,e,d⟩:=T.obj _ _ st4 b hb
   exact(I7.pin (b,o) (eK _ (eK _ (lv hb e)))).2.1
  cases b with
  | false =>
   rw[aN dN] at q6
   obtain⟨m',hm,w7⟩:=hN _ _ q6
   exact aa ⟨rfl,m',hm,again I6 w7⟩
  | true =>
   rw[aP rfl] at q6
   refine aE (aE (lift (he _ s6 σ5 H6 _ I6 q6) λu s7 q7=>?_))
   obtain⟨v,H7,I7,r7,ys,hp,hz,n7⟩:=q7
   obtain⟨m',hm,w7⟩:=hN _ _ n7
   have ap:=jL (X:=cP X scope N' s H C fp) ([] ++ kM fp s4.heap) s7 σ5 H7 (.ref p) [v] (.ref p) [u] (λ_ H8=>W (i + 1) m' σ5 H8) I7 rfl (.cons r7 .nil) ⟨p,ys,v,rfl,rfl,hp,hz,w7⟩
   refine aE (lift ap λ_ s8 q8=>?_)
   obtain⟨_,H8,I8,_,w8⟩:=q8
   exact aa (aa ⟨rfl,m',hm,again I8 w8⟩)
end
section
variable {K:PySem.W.Frag}{p:Addr}{g:TG}{tt:TT}{te:TE}{σ0:St}{H0:Hp}{Q:Hp->Prop}
def lD (p:Addr)(g:TG)(tt:TT)(te:TE)(N:St->Hp->Prop)(x:V)(σ:St)(H:Hp):Prop :=
 g x σ H λσ2 H2=>tt σ2 H2 λb H3=>if b=true then te σ2 H3 λv H4=>∃ ys,H4 p=some (.lst ys)/\ys.length < sizeLine/\N σ2 (upd H4 p (.lst (ys ++ [v]))) else N σ2 H3
theorem kB {lo:Int}{n:Nat}(Pv:Nat->St->Hp->Prop)(h0:Pv 0 σ0 H0)(hs:∀ i σ H,i < n->Pv i σ H->lD p g tt te (Pv (i + 1)) (.int (lo + i)) σ H)(hd:∀ σ H,Pv n σ H->Q H):iO (mK lo n) p g tt te σ0 H0 Q:=by
 refine⟨λi m σ H=>m=n - i/\i<=n/\Pv i σ H,⟨n,by simp,bX _,h0⟩,?_⟩
 rintro i m σ H ⟨rfl,hi,q⟩
 by_cases hlt:i < n
 ·refine .inr ⟨hlt,Pv (i + 1),λσ' H' r=>⟨n - (i + 1),by omega,rfl,hlt,r⟩,λx H' y=>?_⟩
  obtain⟨e,y⟩:=y
  subst e y
  exact hs i σ _ hlt q
 ·have e:i=n:=by omega
  subst e
  exact .inl ⟨aY _,hd σ H q⟩
theorem eI {a:Addr}{xs:List V}(Pv:Nat->St->Hp->Prop)(h0:Pv 0 σ0 H0)(hl:∀ i σ H,i<=xs.length->Pv i σ H->aD K H a xs)(hs:∀ i x σ H,xs[i]? = some x->Pv i σ H->lD p g tt te (Pv (i + 1)) x σ H)(hd:∀ σ H,Pv xs.length σ H->Q H) :
  iO (mM K a) p g tt te σ0 H0 Q:=by
 refine⟨λi m σ H=>m=xs.length - i/\i<=xs.length/\Pv i σ H,⟨xs.length,by simp,bX _,h0⟩,?_⟩
 rintro i m σ H ⟨rfl,hi,r⟩
 have q:=hl i σ H hi r
 by_cases hlt:i < xs.length
 ·refine .inr ⟨⟨xs,xs[i],q,by simp[hlt]⟩,Pv (i + 1),λσ' H' r'=>⟨xs.length - (i + 1),by omega,rfl,hlt,r'⟩,λx H' y=>?_⟩
  obtain⟨e,y⟩:=y
  subst e
  exact hs i x σ _ (y xs q) r
 ·have e:i=xs.length:=by omega
  subst e
  exact .inl ⟨⟨xs,q,aY _⟩,hd σ H r⟩
end
section
variable {X:Cx}{elt iter tg:Expr}{ifs:List Expr}{scope:Scope}{pos:Pos}{N':List Str}{fm:List (Option Nat)}{wi:TI}{g:TG}{tt:TT}{te:TE}
theorem DY {RR:Value->Addr->Result->Shared->Prop}{pins:List (Addr×Obj)}{σ:St}{H:Hp}{s:Shared}{it:Addr}{fp:List Addr}{tn:Nat->Heap->Prop}{J:It}{Q:Addr->Hp->Prop}{E:Value->Shared->Prop}
  (hc:X.calm=true) (S:jY X scope N' fm) (hg:∀ s H C fp,PG (cP X scope N' s H C fp) tg g) (ht:∀ s H C fp,iJ (cP X scope N' s H C fp) ifs tt) (he:∀ s H C fp,PE (cP X scope N' s H C fp) elt te)
  (T:i5 X.prog X.w X.K tg J fp it tn) (I:Inv X pins σ H s) (st:tn 0 s.heap) (hf:∀ b∈fp,dM X pins H b)
  (blk:∀ p,H p=none->iO J p g tt te (seeσ fm σ) (upd H p (.lst [])) (Q p))
  (hR:∀ p C H' s' (m:Str->Option Value),s'.heap.Ns C m->(∀ h',Heap.SameBut C s'.heap h'->Inv X pins σ H' { s' with heap:=h' })->dM X pins H' C->Q p H'->Inv X pins σ H' s'->RR (.ref p) C (.ok .next) s') :
  wpAny (model X.prog X.w) X.A (newList []) (λacc s₃=>wpAny (model X.prog X.w) X.A (newFunctionEnv scope X.env.globals (gL scope X.env) [] X.env.qual none .none (some X.env)) (λcenv s₄ =>
   codeAny (model X.prog X.w) X.A (.compStart (.ListComp elt [⟨tg,iter,ifs,0⟩] scope pos) 0 (.ref it) acc { cenv with scope:=relabel scope X.env }) (RR acc cenv.locals) s₄) E s₃) E s:=by
 have I1:Inv X pins σ (upd H s.heap.objs.size (.lst [])) { s with heap:=s.heap.push { cls:=.type "list",data:=.seq ([]:List Value).toArray } }:=I.lnew (t':=s.toks) .nil (bX _)
 have hb:=blk _ I.fresh
 refine pi (wpAny_newFunctionEnv S.cell (by intro y hy; simp at hy) (λh1 hn1 hs1=>?_) S.kind)
 dsimp only at hn1 hs1 ⊢
 generalize hq:s.heap.push { cls:=.type "list",data:=.seq ([]:List Value).toArray }=h2 at hn1 hs1 I1 ⊢
 have sz:h2.objs.size=s.heap.objs.size + 1:=by rw[<- hq,eL]
 have old:∀ b o,h2.get? b=some o->h1.get? b=some o:=λb o e=>hs1.extBut b o (cQ (bU e)) (bj _ e)
 have old0:∀ b o,s.heap.get? b=some o->h2.get? b=some o:=λb o e=>hq ▸ bj _ e
 have lt0:∀ b∈fp,b < s.heap.objs.size:=λb hb=>by
  obtain⟨o,e,_⟩:=T.obj _ _ st b hb
  exact bU e
 have hf1:∀ b∈fp,dM X pins (upd H s.heap.objs.size (.lst [])) b:=λb hb=>by
  obtain⟨f0,f⟩:=hf b hb
  exact⟨by rw[aj (cQ (lt0 b hb))]; exact f0,f⟩
 have lt2:∀ b∈fp,b < h2.objs.size:=λb hb=>by rw[sz]; exact nv (lt0 b hb)
 have J0:=DW (s:={ s with heap:=h2 }) (h':=h1) (tk:=s.toks) (fp:=fp) S I1 hf1 lt2 hn1 old
 have st1:tn 0 h1:=T.keep _ _ _ st λb _ o e=>old b o (old0 b o e)
 have fpok:∀{H':Hp},(∀ b∈fp,H' b=none)->∀ b∈fp,dM (cP X scope N' { s with heap:=h2 } (upd H s.heap.objs.size (.lst [])) h2.objs.size fp) [] H' b:=λ{H'} hn b hb=>by
  refine⟨hn b hb,cQ (lt2 b hb),λz=>?_,.inl hb,λx c e z=>?_,λp hp=>absurd (show p∈([]:List (Addr×Obj)) from hp) (by simp)⟩
  ·rcases bh.mp (I.stkSub b z) with q | q
   ·exact(hf b hb).2.1 q
   ·exact(hf b hb).2.2.1 q
  ·exact(hf b hb).2.2.2.2.1 x c (S.look I e).1 z
 have loop:=My (iter:=iter) (pos:=pos) (R:=RR (.ref s.heap.objs.size) h2.objs.size) (σ:=σ) (pins:=pins) hc (hg _ _ _ _) (ht _ _ _ _) (he _ _ _ _) T fpok J0 st1 (λb hb=>(hf1 b hb).1) hb λσ' H' s' Jv qv=>by
  obtain⟨m,hm,_⟩:=Jv.loc
  exact hR _ _ H' s' m hm (λh' sb=>wC (s:={ s with heap:=h2 }) I1 hf1 Jv rfl Jv.bare sb) (I1.fpOk (aY _) Jv.free) qv (wC (s:={ s with heap:=h2 }) I1 hf1 Jv rfl Jv.bare (Heap.SameBut.refl ..))
 exact codeAny_compStart_list loop (T.self _ 0 _ _ _ st1 loop)
theorem cS (hc:X.calm=true)(S:jY X scope N' fm)(hi:PI X tg iter wi)(hg:∀ s H C fp,PG (cP X scope N' s H C fp) tg g)(ht:∀ s H C fp,iJ (cP X scope N' s H C fp) ifs tt)
  (he:∀ s H C fp,PE (cP X scope N' s H C fp) elt te) (hs:∀ x,foldedSetIterable iter X.env x=pure x:=by intro _; rfl) :
  PE X (.ListComp elt [⟨tg,iter,ifs,0⟩] scope pos) (GE fm wi g tt te):=by
 intro pins s σ H Q I h
 rw[eval_ListComp]
 refine tS (use:=none) rfl hs (rY (S.cells I)) S.kind S.names (aZ (hi pins s σ H _ I h) λv s1 h1=>aZ h1 λitv s2 h2=>?_)
 obtain⟨it,fp,tn,J,H2,e,I2,T,st2,f2,blk⟩:=h2
 subst e
 refine DY (RR:=λacc C=>compPost (model X.prog X.w) X.A X.xe none (EP X pins σ Q) acc C) (Q:=λp H'=>Q (.ref p) H') hc S hg ht he T I2 st2 f2 blk ?_
 intro p C H' s' m hm back _ q _
 exact⟨m,hm,λh' sb=>⟨.ref p,H',back h' sb,rfl,q⟩⟩
theorem oZ {i:Nat}{x:Str}{px spos:Pos}(hc:X.calm=true)(hN:X.N.Nodup)(hx:X.N[i]? = some x)(hl:X.env.kindOf x=some .local)(S:jY X scope N' fm)(hi:PI X tg iter wi)(hg:∀ s H C fp,PG (cP X scope N' s H C fp) tg g)
  (ht:∀ s H C fp,iJ (cP X scope N' s H C fp) ifs tt) (he:∀ s H C fp,PE (cP X scope N' s H C fp) elt te) (hs:∀ x,foldedSetIterable iter X.env x=pure x:=by intro _; rfl)
  (hsw:swapsWith (.ListComp elt [⟨tg,iter,ifs,0⟩] scope pos) (some (.Name x px)) spos.line X.env=pure true:=by rfl) :
  PS X (.Assign [.Name x px] (.ListComp elt [⟨tg,iter,ifs,0⟩] scope pos) spos) (Au fm wi g tt te i):=by
 intro pins s σ H D I h
 rw[exec_Assign_Name_used _ _ _ _ hsw]
 refine aE (jA (aE ?_))
 show wpAny _ _ (comprehension (.ListComp elt [⟨tg,iter,ifs,0⟩] scope pos) scope X.env _ (newList []) false (eval iter X.env) (some (assign (.Name x px) X.env)) >>= _) _ _ s
 refine aE (aZ (tS (use:=some (assign (.Name x px) X.env)) (Q:=λ_ s'=>SP X pins D .next s') rfl hs (rY (S.cells I)) S.kind S.names
  (aZ (hi pins s σ H _ I h) λv s1 h1=>aZ h1 λitv s2 h2=>?_)) λ_ s' q=>aa (aa q))
 obtain⟨it,fp,tn,J,H2,e,I2,T,st2,f2,blk⟩:=h2
 subst e
 refine DY (RR:=λacc C=>compPost (model X.prog X.w) X.A X.xe (some (assign (.Name x px) X.env)) (λ_ s'=>SP X pins D .next s') acc C) (Q:=λp H'=>D.nx (σ.set i (some (.ref p))) H') hc S hg ht he T I2 st2 f2 blk ?_
 intro p C H' s' m hm back fC q I'
 obtain⟨f0,f1,f2,f3,f4,f5⟩:=fC
 show wpAny _ _ (assign (.Name x px) X.env (.ref p)) _ _ s'
 refine wpAny_assign_Name (tm I' hN hx (.inl hl) (v:=.ref p) rfl (λs'' I'' ⟨a,sb,ha⟩=>?_) (.inr hl))
 have haC:C≠a:=by
  rcases ha with z | z
  ·rw[z]; exact f1
  ·exact fB (f4 x a z)
 refine⟨m,hm.sameBut sb haC,λh3 sb3=>⟨σ.set i (some (.ref p)),H',I''.turned (t':=s''.toks) (λb o hb e=>(sb3.2 b hb).trans e) f0 f1 f3 f4 f5,q⟩⟩
end
open PySem PySem.Spec PySem.W
section
variable {prog:Program}{w:World}{A:Around}{R:Result->Shared->Prop}{h:Heap}{g:Array GenState}{d:Drawn}{t:Nat}{os:OsState}
variable {nm q:Str}{C N f:Addr}{bs bm:List Value}{hdct:Bool}{sn:List Str}{sub:List Value}{ab:Bool}{col:Option Bool}{dd:Option Addr}{k0 k1 k2 k3 k5:Option Value}
structure Nn (bm:List Value):Prop where
 ve:bm.contains (.type "ValueError")=true
 be:bm.contains (.type "BaseException")=true
 ae:bm.contains (.type "AttributeError")=false
 ne:bm.contains (.type "NameError")=false
 ob:bm.contains (.type "object")=true
 rf:∀ self:Value,refuseLoop self "__setattr__" bm=pure ()
end
def Nm (C:Addr)(dx:Option Addr)(tb:Value)(a0:Addr):Obj:={ cls:=.ref C,dict:=dx,data:=.fields #[.ref a0,tb,.none,.none,.bool false,.none] }
def XO (C:Addr)(dx:Option Addr)(tb:Value)(ea:Addr):HO:=.ext λh=>∃ a0,h.get? ea=some (Nm C dx tb a0)
def TB (fl:Value)(T:Addr):HO:=.ext λh=>∃ o ts,h.get? T=some o/\o.data=.fields ts/\ts[3]? = some fl
section
variable {P:Program}{w:World}{H:Hp}{h:Heap}{C ea T:Addr}{dx:Option Addr}{tb fl:Value}
end
section
variable {X:Cx}{pins:List (Addr×Obj)}{σ:St}{H:Hp}{s:Shared}{E:Value->Shared->Prop}{C ea T:Addr}{dx:Option Addr}{tb fl:Value}{A:Around}
def Nq (H:Hp)(tb:Value):Prop:=tb=.none∨∃ T,tb=.ref T/\H T=some (TB .none T)
def Nu (ea:Addr)(H H':Hp):Prop:=∀ b o,b≠ea->H b=some o->H' b=some o
def aH (P:Program)(w:World):gz:=λouter H s E e s'=>∃(ea C dx:Addr) (tb:Value) (H0 H':Hp),e=.ref ea/\s'.os=s.os/\AllBare s'.gens/\Un (iE outer) [] H H' s.heap s'.heap/\cj P w H' s'.heap /\
 H' ea=some (XO C (some dx) tb ea)/\Nq H' tb/\Nu ea H0 H'/\H0 ea=none/\E (.ref C) (some dx) H0
end
open PySem PySem.Spec
structure XCl (K:PySem.W.Frag) (C:Addr):Prop where
 obj:∃(nm q:Str) (N:Addr) (bs bm:List Value) (sn:List Str) (sub:List Value) (ab:Bool) (col:Option Bool) (dd:Option Addr) (k0 k1 k2 k3 k5:Option Value),
  K.lookup C=some (excClassObj nm q C N bs bm true sn sub ab col dd k0 k1 k2 k3 k5 "ValueError.__new__")/\Nn bm
section
variable {M:Model}{A:Around}{E:Value->Shared->Prop}{env:Env}{h:Heap}{g:Array GenState}{d:Drawn}{t:Nat}{os:OsState}
variable {nm q:Str}{C N:Addr}{bs bm:List Value}{hdct:Bool}{sn:List Str}{sub:List Value}{ab:Bool}{col:Option Bool}{dd:Option Addr}{k0 k1 k2 k3 k5:Option Value}{ea a0:Addr}{dx:Option Addr}
end
section
variable {prog:Program}{w:World}{A:Around}{E:Value->Shared->Prop}{env:Env}{h:Heap}{g:Array GenState}{d:Drawn}{t:Nat}{os:OsState}
variable {nm q:Str}{C N:Addr}{bs bm:List Value}{hdct:Bool}{sn:List Str}{sub:List Value}{ab:Bool}{col:Option Bool}{dd:Option Addr}{k0 k1 k2 k3 k5:Option Value}{ea a0:Addr}{dx:Option Addr}{tb:Value}
end
structure XKl (K:PySem.W.Frag) (C:Addr):Prop extends XCl K C where
 sa:PySem.W.findIn K (.ref C) "__setattr__" = some (some (.builtin "object.__setattr__"))
 ga:PySem.W.findIn K (.ref C) "__getattribute__" = some (some (.builtin "BaseException.__getattribute__"))
 gn:PySem.W.findIn K (.ref C) "__getattr__" = some none
 nw:PySem.W.findIn K (.ref C) "word" = some none
structure XMk (K:PySem.W.Frag) (C f:Addr):Prop where
 init:PySem.W.findIn K (.ref C) "__init__" = some (some (.ref f))
 fn:PySem.W.isFn K (.ref f)=true
 kp:PySem.W.keepIn K (.ref C)=true
section
variable {X:Cx}{CX:gz}{k:Nat}{f C:Addr}{fd:FuncData}{ps:List Str}{sp:Sp}{E:XK}{x:Str}{p pos apos pos':Pos}{e o value:Expr}{ta tv te:TE}{t:TA}
end
structure XAt (K:PySem.W.Frag) (C:Addr) (m:Str) (f:Addr):Prop where
 ga:PySem.W.specialIn K (.ref C) "__getattribute__" = some (some (.builtin "type.__getattribute__"))
 rd:PySem.W.readsIn K C (.type "type")=true
 fd:PySem.W.findCls K (.ref C) (.type "type") m=some (.val (.ref f))
 kp:PySem.W.keepIn K (.ref f)=true
section
variable {X:Cx}{CX:gz}{k:Nat}{f C:Addr}{fd:FuncData}{ps:List Str}{sp:Sp}{E:XK}{x m:Str}{p pos apos pos':Pos}{e o value:Expr}{es:List Expr}{ta tv te:TE}{t:TA}
end
structure Nl (K:PySem.W.Frag) (C W:Addr):Prop where
 obj:∃(nm q:Str) (N:Addr) (bs bm:List Value) (sn:List Str) (sub:List Value) (ab:Bool) (col:Option Bool) (dd:Option Addr) (k0 k1 k2 k3 k5:Option Value),
  K.lookup C=some (excClassObj nm q C N bs bm true sn sub ab col dd k0 k1 k2 k3 k5 "ValueError.__new__")/\(Value.ref C :: bm).contains (.ref W)=true
section
variable {M:Model}{A:Around}{E:Value->Shared->Prop}{h:Heap}{g:Array GenState}{d:Drawn}{t:Nat}{os:OsState}
variable {nm q nm' q':Str}{C N W N':Addr}{bs bm bs' bm':List Value}{sn sn':List Str}{sub sub':List Value}{ab ab':Bool}{col col':Option Bool}{dd dd':Option Addr}{k0 k1 k2 k3 k5 l0 l1 l2 l3 l5:Option Value}{ea:Addr}{oe:Obj}
end
section
variable {X:Cx}{pins:List (Addr×Obj)}{σ:St}{H:Hp}{s:Shared}{Ey:Value->Shared->Prop}{ea:Addr}
end
section
variable {X:Cx}
end
theorem ah {a b:Nat}(h:¬ a=b):(a:Addr)≠b:=h
def dI (h:Heap)(a:Addr)(x:Str)(i:Nat):Prop:=∃ ty t,h.IsStrIter a ty x t i/\(ty = "str_ascii_iterator" ∨ ty = "str_iterator")
theorem dI.at {h h':Heap}{a:Addr}{x:Str}{i:Nat}(st:dI h a x i)(k:∀ o,h.get? a=some o->h'.get? a=some o):dI h' a x i:=by
 obtain⟨ty,t,⟨o,e,r⟩,z⟩:=st
 exact⟨ty,t,⟨o,k o e,r⟩,z⟩
theorem dI.obj {h:Heap}{a:Addr}{x:Str}{i:Nat}(st:dI h a x i):∃ o,h.get? a=some o/\∀ v,o.data≠.cell v:=by
 obtain⟨ty,t,⟨o,e,c,d⟩,z⟩:=st
 exact⟨o,e,λv q=>by rw[d] at q; cases q⟩
section
variable {prog:Program}{w:World}{A:Around}{E:Value->Shared->Prop}{s:Shared}{a:Addr}{x:Str}{i c:Nat}
theorem oy {Q:Value->Shared->Prop}(st:dI s.heap a x i)(hx:x.cps[i]? = some c)(hQ:∀ h' t tk,dI h' a x (i + 1)->Heap.SameBut a s.heap h'->Q (.str ⟨#[c]⟩ t) { s with heap:=h',toks:=tk }) :
  wpAny (model prog w) A (Builtin.SmallTypes.nextOf (.ref a)) Q E s:=by
 obtain⟨ty,t,it,z⟩:=st
 rcases z with rfl | rfl
 ·exact wpAny_nextOf_ascii_item it hx λh' st' sb=>hQ h' _ _ ⟨_,t,st',.inl rfl⟩ sb
 ·exact wpAny_nextOf_wide_item it hx λh' st' sb=>hQ h' _ _ ⟨_,t,st',.inr rfl⟩ sb
theorem xi {Q:Value->Shared->Prop}(hh:A.handled=none)(st:dI s.heap a x i)(hx:x.cps[i]? = none)
  (hE:∀ h' e,Heap.ExtBut a s.heap h'->(∃ o,h'.get? e=some o/\o.cls=.type "StopIteration")->E (.ref e) { s with heap:=h' }) :
  wpAny (model prog w) A (Builtin.SmallTypes.nextOf (.ref a)) Q E s:=by
 obtain⟨ty,t,it,z⟩:=st
 rcases z with rfl | rfl
 ·exact wpAny_nextOf_ascii_end hh it hx hE
 ·exact wpAny_nextOf_wide_end hh it hx hE
theorem pB {t:Tok}{Q:Value->Shared->Prop}(h:∀ o:Obj,dI (s.heap.push o) s.heap.objs.size x 0->Q (.ref s.heap.objs.size) { s with heap:=s.heap.push o }):wpAny (model prog w) A (pyIter (.str x t)) Q E s:=by
 refine wpAny_pyIter_strU (h _ ?_)
 have e:=fD s.heap (o:={ cls:=.type (strIterType x),data:=.fields #[.str x t,.int 0 0] }) rfl
 refine⟨strIterType x,t,⟨_,e,rfl,rfl⟩,?_⟩
 unfold strIterType
 split
 ·exact .inl rfl
 ·exact .inr rfl
end
structure Z3 (n:Nat) (x y z:Str) (i:Nat) (f0:Value) (h:Heap):Prop where
 zz:h.get? (n + 5)=some { cls:=.type "zip",dict:=none,data:=.fields #[f0,.bool false,.bool false,.ref (n + 3),.ref (n + 4)],slots:=#[] }
 ti:h.get? (n + 3)=some { cls:=.type "tuple",data:=.seq #[.ref n,.ref (n + 1),.ref (n + 2)] }
 to:∃ a b c,h.get? (n + 4)=some { cls:=.type "tuple",data:=.seq #[a,b,c] }
 i1:dI h n x i
 i2:dI h (n + 1) y i
 i3:dI h (n + 2) z i
structure Z2 (n:Nat) (x y:Str) (i:Nat) (f0:Value) (h:Heap):Prop where
 zz:h.get? (n + 4)=some { cls:=.type "zip",dict:=none,data:=.fields #[f0,.bool false,.bool false,.ref (n + 2),.ref (n + 3)],slots:=#[] }
 ti:h.get? (n + 2)=some { cls:=.type "tuple",data:=.seq #[.ref n,.ref (n + 1)] }
 to:∃ a b,h.get? (n + 3)=some { cls:=.type "tuple",data:=.seq #[a,b] }
 i1:dI h n x i
 i2:dI h (n + 1) y i
section
variable {prog:Program}{w:World}{A:Around}{E:Value->Shared->Prop}{s:Shared}{n:Nat}{x y z:Str}{i c1 c2 c3:Nat}
theorem qC {T:Addr}{vs:Array Value}{u:Value}{k:Nat}{Q:Unit->Shared->Prop}(hT:s.heap.get? T=some { cls:=.type "tuple",data:=.seq vs }) (hv:vs.size<=3)
  (h:∀ h',h'.get? T=some { cls:=.type "tuple",data:=.seq (vs.setIfInBounds k u) }->Heap.SameBut T s.heap h'->Q () { s with heap:=h' }):wpAny (model prog w) A (updateSeq T (·.setIfInBounds k u)) Q E s:=by
 refine wpAny_updateSeq (hz:=by rw[fG]; omega) (_hz':=by rw[Array.size_setIfInBounds,fG]; omega) hT rfl (h _ ?_ (Heap.SameBut.update ..))
 rw[Heap.get?_update_self _ hT rfl]
 simp[Obj.mapSeq]
theorem FE {Q:Value->Shared->Prop}(Z:Z3 n x y z i .none s.heap)(h1:x.cps[i]? = some c1)(h2:y.cps[i]? = some c2)(h3:z.cps[i]? = some c3)
  (hQ:∀ h' t1 t2 t3 tk,Z3 n x y z (i + 1) (rawInt s.heap.objs.size) h'->h'.get? s.heap.objs.size=some { cls:=.type "tuple",data:=.seq #[.str ⟨#[c1]⟩ t1,.str ⟨#[c2]⟩ t2,.str ⟨#[c3]⟩ t3] } ->
   (∀(c:Nat) o,(c < n∨n + 6<=c)->s.heap.get? c=some o->h'.get? c=some o)->Q (.ref s.heap.objs.size) { s with heap:=h',toks:=tk }) :
  wpAny (model prog w) A (Builtin.«zip.__next__» ⟨[.ref (n + 5)],[]⟩) (λfin s'=>∃ v,fin=.done (.ret v)/\Q v s') E s:=by
 obtain⟨hz,hTI,⟨a,b,c,hTO⟩,i1,i2,i3⟩:=Z
 show wpAny _ _ (field (.ref (n + 5)) 2 >>= _) _ _ _
 refine aE (iM hz rfl (x:=.bool false) rfl ?_)
 show wpAny _ _ (field (.ref (n + 5)) 3 >>= _) _ _ _
 refine aE (iM hz rfl (x:=.ref (n + 3)) rfl (aE (jc hTI rfl ?_)))
 show wpAny _ _ (Builtin.SmallTypes.ownedTupleIsFree (.ref (n + 5)) >>= _) _ _ _
 refine aE ?_
 unfold Builtin.SmallTypes.ownedTupleIsFree
 refine aE (iM hz rfl (x:=.none) rfl (aa ?_))
 simp only[jM]
 refine aE (wpAny_rule (aE (iM hz rfl (x:=.ref (n + 4)) rfl ?_)))
 refine aE (mP hz (by simp) λg1 z1 s1=>?_)
 refine aE ?_
 simp only[List.zipIdx_cons,List.zipIdx_nil,List.forIn_cons,List.forIn_nil]
 refine aE (aE (ph ?_))
 show wpAny _ _ (Builtin.SmallTypes.nextOf (.ref n) >>= _) _ _ _
 refine aE (oy (i1.at λo e=>s1.extBut _ _ (ah (by omega)) e) h1 λg2 t1 k2 i1' s2=>aa ?_)
 have hT2:g2.get? (n + 4)=_:=s2.extBut _ _ (ah (by omega)) (s1.extBut _ _ (ah (by omega)) hTO)
 refine aE (jc hT2 rfl (aE (qC hT2 (by simp) λg3 hT3 s3=>aE (wpAny_letGo (aa ?_)))))
 refine aE (aE (ph ?_))
 show wpAny _ _ (Builtin.SmallTypes.nextOf (.ref (n + 1)) >>= _) _ _ _
 refine aE (oy (i2.at λo e=>s3.extBut _ _ (ah (by omega)) (s2.extBut _ _ (ah (by omega)) (s1.extBut _ _ (ah (by omega)) e))) h2 λg4 t2 k4 i2' s4=>aa ?_)
 have hT4:g4.get? (n + 4)=_:=s4.extBut _ _ (ah (by omega)) hT3
 refine aE (jc hT4 rfl (aE (qC hT4 (by simp) λg5 hT5 s5=>aE (wpAny_letGo (aa ?_)))))
 refine aE (aE (ph ?_))
 show wpAny _ _ (Builtin.SmallTypes.nextOf (.ref (n + 2)) >>= _) _ _ _
 refine aE (oy (i3.at λo e=>s5.extBut _ _ (ah (by omega)) (s4.extBut _ _ (ah (by omega)) (s3.extBut _ _ (ah (by omega)) (s2.extBut _ _ (ah (by omega)) (s1.extBut _ _ (ah (by omega)) e))))) h3 λg6 t3 k6 i3' s6=>aa ?_)
 have hT6:g6.get? (n + 4)=_:=s6.extBut _ _ (ah (by omega)) hT5
 refine aE (jc hT6 rfl (aE (qC hT6 (by simp) λg7 hT7 s7=>aE (wpAny_letGo (aa (aa ?_))))))
 have hT7':g7.get? (n + 4)=some { cls:=.type "tuple",data:=.seq #[.str ⟨#[c1]⟩ t1,.str ⟨#[c2]⟩ t2,.str ⟨#[c3]⟩ t3] }:=hT7
 have sz:g7.objs.size=s.heap.objs.size:=by rw[s7.1,s6.1,s5.1,s4.1,s3.1,s2.1,s1.1]
 refine aE (jc hT7' rfl (aE (wpAny_newTuple ?_)))
 show wpAny _ _ (Builtin.SmallTypes.ownedTupleHandOut (.ref (n + 5)) (.ref g7.objs.size) >>= _) _ _ _
 refine aE ?_
 unfold Builtin.SmallTypes.ownedTupleHandOut
 have up7:∀ b o,b≠n->b≠n + 1->b≠n + 2->b≠n + 4->g1.get? b=some o->g7.get? b=some o:=λb o e1 e2 e3 e4 e =>
  s7.extBut _ _ e4 (s6.extBut _ _ e3 (s5.extBut _ _ e4 (s4.extBut _ _ e2 (s3.extBut _ _ e4 (s2.extBut _ _ e1 e)))))
 have z7:=up7 (n + 5) _ (ah (by omega)) (ah (by omega)) (ah (by omega)) (ah (by omega)) z1
 refine aE (mP (bj _ z7) (by simp) λg8 z8 s8=>mP z8 (by simp) λg9 z9 s9=>?_)
 have lt:(n + 5:Nat) < s.heap.objs.size:=bU hz
 have up:∀ b o,b≠n + 5->g7.get? b=some o->g9.get? b=some o:=λb o e1 e=>s9.extBut _ _ e1 (s8.extBut _ _ e1 (bj _ e))
 refine aa ⟨_,rfl,?_⟩
 show Q (.ref g7.objs.size) _
 rw[sz]
 refine hQ g9 t1 t2 t3 _ ⟨?_,up _ _ (ah (by omega)) (up7 _ _ (ah (by omega)) (ah (by omega)) (ah (by omega)) (ah (by omega)) (s1.extBut _ _ (ah (by omega)) hTI)),⟨_,_,_,up _ _ (ah (by omega)) hT7'⟩,?_,?_,?_⟩ ?_ λ(b:Nat) o hb e=>?_
 ·rw[<- sz]; exact z9
 ·exact i1'.at λo e=>up _ _ (ah (by omega)) (s7.extBut _ _ (ah (by omega)) (s6.extBut _ _ (ah (by omega)) (s5.extBut _ _ (ah (by omega)) (s4.extBut _ _ (ah (by omega)) (s3.extBut _ _ (ah (by omega)) e)))))
 ·exact i2'.at λo e=>up _ _ (ah (by omega)) (s7.extBut _ _ (ah (by omega)) (s6.extBut _ _ (ah (by omega)) (s5.extBut _ _ (ah (by omega)) e)))
 ·exact i3'.at λo e=>up _ _ (ah (by omega)) (s7.extBut _ _ (ah (by omega)) e)
 ·rw[<- sz] at lt ⊢
  exact s9.extBut _ _ (ah (by omega)) (s8.extBut _ _ (ah (by omega)) (fD _ rfl))
 ·exact up b o (ah (by omega)) (up7 b o (ah (by omega)) (ah (by omega)) (ah (by omega)) (ah (by omega)) (s1.extBut _ _ (ah (by omega)) e))
theorem FG {Q:Value->Shared->Prop}(Z:Z2 n x y i .none s.heap)(h1:x.cps[i]? = some c1)(h2:y.cps[i]? = some c2)
  (hQ:∀ h' t1 t2 tk,Z2 n x y (i + 1) (rawInt s.heap.objs.size) h'->h'.get? s.heap.objs.size=some { cls:=.type "tuple",data:=.seq #[.str ⟨#[c1]⟩ t1,.str ⟨#[c2]⟩ t2] } ->
   (∀(c:Nat) o,(c < n∨n + 5<=c)->s.heap.get? c=some o->h'.get? c=some o)->Q (.ref s.heap.objs.size) { s with heap:=h',toks:=tk }) :
  wpAny (model prog w) A (Builtin.«zip.__next__» ⟨[.ref (n + 4)],[]⟩) (λfin s'=>∃ v,fin=.done (.ret v)/\Q v s') E s:=by
 obtain⟨hz,hTI,⟨a,b,hTO⟩,i1,i2⟩:=Z
 show wpAny _ _ (field (.ref (n + 4)) 2 >>= _) _ _ _
 refine aE (iM hz rfl (x:=.bool false) rfl ?_)
 show wpAny _ _ (field (.ref (n + 4)) 3 >>= _) _ _ _
 refine aE (iM hz rfl (x:=.ref (n + 2)) rfl (aE (jc hTI rfl ?_)))
 show wpAny _ _ (Builtin.SmallTypes.ownedTupleIsFree (.ref (n + 4)) >>= _) _ _ _
 refine aE ?_
 unfold Builtin.SmallTypes.ownedTupleIsFree
 refine aE (iM hz rfl (x:=.none) rfl (aa ?_))
 simp only[jM]
 refine aE (wpAny_rule (aE (iM hz rfl (x:=.ref (n + 3)) rfl ?_)))
 refine aE (mP hz (by simp) λg1 z1 s1=>?_)
 refine aE ?_
 simp only[List.zipIdx_cons,List.zipIdx_nil,List.forIn_cons,List.forIn_nil]
 refine aE (aE (ph ?_))
 show wpAny _ _ (Builtin.SmallTypes.nextOf (.ref n) >>= _) _ _ _
 refine aE (oy (i1.at λo e=>s1.extBut _ _ (ah (by omega)) e) h1 λg2 t1 k2 i1' s2=>aa ?_)
 have hT2:g2.get? (n + 3)=_:=s2.extBut _ _ (ah (by omega)) (s1.extBut _ _ (ah (by omega)) hTO)
 refine aE (jc hT2 rfl (aE (qC hT2 (by simp) λg3 hT3 s3=>aE (wpAny_letGo (aa ?_)))))
 refine aE (aE (ph ?_))
 show wpAny _ _ (Builtin.SmallTypes.nextOf (.ref (n + 1)) >>= _) _ _ _
 refine aE (oy (i2.at λo e=>s3.extBut _ _ (ah (by omega)) (s2.extBut _ _ (ah (by omega)) (s1.extBut _ _ (ah (by omega)) e))) h2 λg4 t2 k4 i2' s4=>aa ?_)
 have hT4:g4.get? (n + 3)=_:=s4.extBut _ _ (ah (by omega)) hT3
 refine aE (jc hT4 rfl (aE (qC hT4 (by simp) λg5 hT5 s5=>aE (wpAny_letGo (aa (aa ?_))))))
 have hT7':g5.get? (n + 3)=some { cls:=.type "tuple",data:=.seq #[.str ⟨#[c1]⟩ t1,.str ⟨#[c2]⟩ t2] }:=hT5
 have sz:g5.objs.size=s.heap.objs.size:=by rw[s5.1,s4.1,s3.1,s2.1,s1.1]
 refine aE (jc hT7' rfl (aE (wpAny_newTuple ?_)))
 show wpAny _ _ (Builtin.SmallTypes.ownedTupleHandOut (.ref (n + 4)) (.ref g5.objs.size) >>= _) _ _ _
 refine aE ?_
 unfold Builtin.SmallTypes.ownedTupleHandOut
 have up7:∀ b o,b≠n->b≠n + 1->b≠n + 3->g1.get? b=some o->g5.get? b=some o:=λb o e1 e2 e4 e =>
  s5.extBut _ _ e4 (s4.extBut _ _ e2 (s3.extBut _ _ e4 (s2.extBut _ _ e1 e)))
 have z7:=up7 (n + 4) _ (ah (by omega)) (ah (by omega)) (ah (by omega)) z1
 refine aE (mP (bj _ z7) (by simp) λg8 z8 s8=>mP z8 (by simp) λg9 z9 s9=>?_)
 have lt:(n + 4:Nat) < s.heap.objs.size:=bU hz
 have up:∀ b o,b≠n + 4->g5.get? b=some o->g9.get? b=some o:=λb o e1 e=>s9.extBut _ _ e1 (s8.extBut _ _ e1 (bj _ e))
 refine aa ⟨_,rfl,?_⟩
 show Q (.ref g5.objs.size) _
 rw[sz]
 refine hQ g9 t1 t2 _ ⟨?_,up _ _ (ah (by omega)) (up7 _ _ (ah (by omega)) (ah (by omega)) (ah (by omega)) (s1.extBut _ _ (ah (by omega)) hTI)),⟨_,_,up _ _ (ah (by omega)) hT7'⟩,?_,?_⟩ ?_ λ(b:Nat) o hb e=>?_
 ·rw[<- sz]; exact z9
 ·exact i1'.at λo e=>up _ _ (ah (by omega)) (s5.extBut _ _ (ah (by omega)) (s4.extBut _ _ (ah (by omega)) (s3.extBut _ _ (ah (by omega)) e)))
 ·exact i2'.at λo e=>up _ _ (ah (by omega)) (s5.extBut _ _ (ah (by omega)) e)
 ·rw[<- sz] at lt ⊢
  exact s9.extBut _ _ (ah (by omega)) (s8.extBut _ _ (ah (by omega)) (fD _ rfl))
 ·exact up b o (ah (by omega)) (up7 b o (ah (by omega)) (ah (by omega)) (ah (by omega)) (s1.extBut _ _ (ah (by omega)) e))
theorem zI {zz TI TO:Nat}{its:List Value}{Q:Fin->Shared->Prop}(hh:A.handled=none) (hz:s.heap.get? zz=some { cls:=.type "zip",dict:=none,data:=.fields #[.none,.bool false,.bool false,.ref TI,.ref TO],slots:=#[] })
  (hTI:s.heap.get? TI=some { cls:=.type "tuple",data:=.seq (Value.ref n :: its).toArray }) (i1:dI s.heap n x i) (hx:x.cps[i]? = none) (hne:n≠zz)
  (hE:∀ h' e,(∀(c:Nat) o,c≠zz->c≠n->s.heap.get? c=some o->h'.get? c=some o)->(∃ o,h'.get? e=some o/\o.cls=.type "StopIteration")->E (.ref e) { s with heap:=h' }) :
  wpAny (model prog w) A (Builtin.«zip.__next__» ⟨[.ref zz],[]⟩) Q E s:=by
 show wpAny _ _ (field (.ref zz) 2 >>= _) _ _ _
 refine aE (iM hz rfl (x:=.bool false) rfl ?_)
 show wpAny _ _ (field (.ref zz) 3 >>= _) _ _ _
 refine aE (iM hz rfl (x:=.ref TI) rfl (aE (jc hTI rfl ?_)))
 show wpAny _ _ (Builtin.SmallTypes.ownedTupleIsFree (.ref zz) >>= _) _ _ _
 refine aE ?_
 unfold Builtin.SmallTypes.ownedTupleIsFree
 refine aE (iM hz rfl (x:=.none) rfl (aa ?_))
 simp only[jM]
 refine aE (wpAny_rule (aE (iM hz rfl (x:=.ref TO) rfl ?_)))
 refine aE (mP hz (by simp) λg1 z1 s1=>?_)
 refine aE ?_
 simp only[List.zipIdx_cons,List.forIn_cons]
 refine aE (aE (ph ?_))
 show wpAny _ _ (Builtin.SmallTypes.nextOf (.ref n) >>= _) _ _ _
 refine aE (xi hh (i1.at λo e=>s1.extBut _ _ (ah hne) e) hx λg2 e s2 he=>?_)
 obtain⟨oe,hoe,hce⟩:=he
 have z2:=s2 zz _ (ah (fB hne)) z1
 have hez:e≠zz:=λq=>by rw[q,z2] at hoe; cases hoe; simp at hce
 exact mP z2 (by simp) λg3 _ s3=>hE g3 e (λc o k1 k2 q=>s3.extBut _ _ k1 (s2 _ _ k2 (s1.extBut _ _ k1 q))) ⟨oe,s3.extBut _ _ hez hoe,hce⟩
theorem zF {zz:Nat}{o:Obj}{Q:Option Value->Shared->Prop}(ho:s.heap.get? zz=some o) (hc:o.cls=.type "zip") (h:wpAny (model prog w) A.in1 (Builtin.«zip.__next__» ⟨[.ref zz],[]⟩) (λfin s'=>∃ v,fin=.done (.ret v)/\Q (some v) s') (λ_ _=>False) s) :
  wpAny (model prog w) A (pyNext (.ref zz)) Q E s:=by
 have hT:s.TypeIs (.ref zz) "zip" := ⟨_,ho,hc⟩
 unfold pyNext
 refine aE (py (pk (name:=Str.ofString "__next__") hT F.slot_zip_next (lF F.slot_zip_next hT F.entry_zip_next (fY h (λfin s' q=>?_) λ_ _ q=>q.elim) (F.args_zip_next_1 _))))
 obtain⟨v,e,q⟩:=q
 exact⟨v,e,aa q⟩
theorem zG {zz:Nat}{o:Obj}{Q:Option Value->Shared->Prop}(ho:s.heap.get? zz=some o) (hc:o.cls=.type "zip")
  (h:wpAny (model prog w) A.in1 (Builtin.«zip.__next__» ⟨[.ref zz],[]⟩) (λ_ _=>False) (λe s'=>∃ ea o,e=.ref ea/\s'.heap.get? ea=some o/\o.cls=.type "StopIteration" /\ Q none s') s) :
  wpAny (model prog w) A (pyNext (.ref zz)) Q E s:=by
 have hT:s.TypeIs (.ref zz) "zip" := ⟨_,ho,hc⟩
 unfold pyNext
 refine aE (py (pk (name:=Str.ofString "__next__") hT F.slot_zip_next (lF F.slot_zip_next hT F.entry_zip_next (fY h (λ_ _ q=>q.elim) λe s' q=>?_) (F.args_zip_next_1 _))))
 obtain⟨ea,oe,rfl,hoe,hce,q⟩:=q
 refine aE (wpAny_isInstance (T := "StopIteration") (b:=true) ⟨oe,hoe,hce⟩ isSubtype_stop ?_)
 exact aa q
theorem tR {zz:Nat}{o:Obj}{Q:Value->Shared->Prop}(ho:s.heap.get? zz=some o) (hc:o.cls=.type "zip") (h:Q (.ref zz) s):wpAny (model prog w) A (pyIter (.ref zz)) Q E s:=by
 have hT:s.TypeIs (.ref zz) "zip" := ⟨_,ho,hc⟩
 refine wpAny_pyIter_slot hT F.slot_zip_iter (lF F.slot_zip_iter hT F.entry_zip_iter ?_ (F.args_zip_iter_1 _))
 show wpAny _ _ (ret (.ref zz)) _ _ s
 exact aa ⟨_,rfl, "zip",_,hT,F.slot_zip_next.lookup,h⟩
theorem zH {elts:List Expr}{k:Nat}{pos:Pos}{zz TI TO T:Nat}{Q:Unit->Shared->Prop}(hz:s.heap.get? zz=some { cls:=.type "zip",dict:=none,data:=.fields #[rawInt T,.bool false,.bool false,.ref TI,.ref TO],slots:=#[] })
  (hQ:∀ h',h'.get? zz=some { cls:=.type "zip",dict:=none,data:=.fields #[.none,.bool false,.bool false,.ref TI,.ref TO],slots:=#[] }->Heap.SameBut zz s.heap h'->Q () { s with heap:=h' }) :
  wpAny (model prog w) A (letOwnedTupleGo (.Tuple elts k pos) (.ref zz) (.ref T)) Q E s:=wpAny_letOwnedTupleGo_zip hz λh' a b=>hQ h' a b
theorem dI.cast {h:Heap}{a b:Addr}(e:a=b)(st:dI h a x i):dI h b x i:=e ▸ st
abbrev zT (vs:Array Value):Obj:={ cls:=.type "tuple",data:=.seq vs }
abbrev zZ (TI TO:Nat):Obj:={ cls:=.type "zip",data:=.fields #[.none,.bool false,.bool false,.ref TI,.ref TO] }
theorem FF {hp:Heap}{o1 o2:Obj}(e1:dI (hp.push o1) hp.objs.size x 0)(e2:dI ((hp.push o1).push o2) (hp.push o1).objs.size y 0) :
  Z2 hp.objs.size x y 0 .none (((((hp.push o1).push o2).push (zT #[.ref hp.objs.size,.ref (hp.push o1).objs.size])).push (zT #[.none,.none])).push (zZ ((hp.push o1).push o2).objs.size (((hp.push o1).push o2).push (zT #[.ref hp.objs.size,.ref (hp.push o1).objs.size])).objs.size)):=by
 have s1:∀(h:Heap) (o:Obj),(h.push o).objs.size=h.objs.size + 1:=λh o=>eL ..
 have p:∀{h:Heap} {a:Addr} {u:Obj} (o:Obj),h.get? a=some u->(h.push o).get? a=some u:=λo e=>bj _ e
 refine⟨?_,p _ (p _ ?_),⟨.none,.none,p _ ?_⟩,e1.at λo e=>p _ (p _ (p _ (p _ e))),?_⟩
 ·rw[tP (by rw[s1,s1,s1,s1]) rfl]
  simp only[s1]
 ·rw[tP (by rw[s1,s1]) rfl,s1]
 ·exact tP (by rw[s1,s1,s1]) rfl
 ·exact(e2.at λo e=>p _ (p _ (p _ e))).cast (by rw[s1])
theorem FC (t1 t2:Tok):Meets (Builtin.«zip.__new__» ⟨[.type "zip",.str x t1,.str y t2],[]⟩) (λ_ R s=>∀ h',Z2 s.heap.objs.size x y 0 .none h'->(∀ c o,s.heap.get? c=some o->h'.get? c=some o)->R (.ok (.ret (.ref (s.heap.objs.size + 4)))) { s with heap:=h' }) :=
 .of_wp λprog w A R s h=>by
  obtain⟨hp,g,d,tk,os⟩:=s
  have hsub:=sub_zip
  wp_walk using pB
  intro o1 e1
  wp_walk using pB
  intro o2 e2
  wp_walk
  refine⟨_,rfl,?_⟩
  have q:=h _ (FF e1 e2) λc o e=>bj _ (bj _ (bj _ (bj _ (bj _ e))))
  have e4:((((hp.push o1).push o2).push (zT #[.ref hp.objs.size,.ref (hp.push o1).objs.size])).push (zT #[.none,.none])).objs.size=hp.objs.size + 4:=by rw[eL,eL,eL,eL]
  dsimp only at q
  rw[<- e4] at q
  exact q
theorem FD {hp:Heap}{o1 o2 o3:Obj}(e1:dI (hp.push o1) hp.objs.size x 0)(e2:dI ((hp.push o1).push o2) (hp.push o1).objs.size y 0)(e3:dI (((hp.push o1).push o2).push o3) ((hp.push o1).push o2).objs.size z 0) :
  Z3 hp.objs.size x y z 0 .none ((((((hp.push o1).push o2).push o3).push (zT #[.ref hp.objs.size,.ref (hp.push o1).objs.size,.ref ((hp.push o1).push o2).objs.size])).push (zT #[.none,.none,.none])).push
   (zZ (((hp.push o1).push o2).push o3).objs.size ((((hp.push o1).push o2).push o3).push (zT #[.ref hp.objs.size,.ref (hp.push o1).objs.size,.ref ((hp.push o1).push o2).objs.size])).objs.size)):=by
 have s1:∀(h:Heap) (o:Obj),(h.push o).objs.size=h.objs.size + 1:=λh o=>eL ..
 have p:∀{h:Heap} {a:Addr} {u:Obj} (o:Obj),h.get? a=some u->(h.push o).get? a=some u:=λo e=>bj _ e
 refine⟨?_,p _ (p _ ?_),⟨.none,.none,.none,p _ ?_⟩,e1.at λo e=>p _ (p _ (p _ (p _ (p _ e)))),?_,?_⟩
 ·rw[tP (by rw[s1,s1,s1,s1,s1]) rfl]
  simp only[s1]
 ·rw[tP (by rw[s1,s1,s1]) rfl]
  simp only[s1]
 ·exact tP (by rw[s1,s1,s1,s1]) rfl
 ·exact(e2.at λo e=>p _ (p _ (p _ (p _ e)))).cast (by rw[s1])
 ·exact(e3.at λo e=>p _ (p _ (p _ e))).cast (by rw[s1,s1])
theorem FB (t1 t2 t3:Tok):Meets (Builtin.«zip.__new__» ⟨[.type "zip",.str x t1,.str y t2,.str z t3],[]⟩) (λ_ R s=>∀ h',Z3 s.heap.objs.size x y z 0 .none h'->(∀ c o,s.heap.get? c=some o->h'.get? c=some o)->R (.ok (.ret (.ref (s.heap.objs.size + 5)))) { s with heap:=h' }) :=
 .of_wp λprog w A R s h=>by
  obtain⟨hp,g,d,tk,os⟩:=s
  have hsub:=sub_zip
  wp_walk using pB
  intro o1 e1
  wp_walk using pB
  intro o2 e2
  wp_walk using pB
  intro o3 e3
  wp_walk
  refine⟨_,rfl,?_⟩
  have q:=h _ (FD e1 e2 e3) λc o e=>bj _ (bj _ (bj _ (bj _ (bj _ (bj _ e)))))
  have e4:(((((hp.push o1).push o2).push o3).push (zT #[.ref hp.objs.size,.ref (hp.push o1).objs.size,.ref ((hp.push o1).push o2).objs.size])).push (zT #[.none,.none,.none])).objs.size=hp.objs.size + 5:=by rw[eL,eL,eL,eL,eL]
  dsimp only at q
  rw[<- e4] at q
  exact q
theorem N9 {t1 t2:Tok}{Q:Value->Shared->Prop}(h:∀ h',Z2 s.heap.objs.size x y 0 .none h'->(∀ c o,s.heap.get? c=some o->h'.get? c=some o)->Q (.ref (s.heap.objs.size + 4)) { s with heap:=h' }) :
  wpAny (model prog w) A (call (.type "zip") [.str x t1,.str y t2]) Q E s:=by
 refine callType_new F.called_zip (by decide) (by kernel_rfl) (by kernel_rfl) (λobj=>F.args_object_init_3 obj _ _) F.entry_zip_new (FC t1 t2) ?_
 intro h' Z k
 exact⟨⟨_,Z.zz,rfl⟩,h h' Z k⟩
theorem NZ (a b c d:Value):argsOk "object.__init__" ⟨[a,b,c,d],[]⟩:=by unfold argsOk; kernel_rfl
theorem N8 {t1 t2 t3:Tok}{Q:Value->Shared->Prop}(h:∀ h',Z3 s.heap.objs.size x y z 0 .none h'->(∀ c o,s.heap.get? c=some o->h'.get? c=some o)->Q (.ref (s.heap.objs.size + 5)) { s with heap:=h' }) :
  wpAny (model prog w) A (call (.type "zip") [.str x t1,.str y t2,.str z t3]) Q E s:=by
 refine callType_new F.called_zip (by decide) (by kernel_rfl) (by kernel_rfl) (λobj=>NZ obj _ _ _) F.entry_zip_new (FB t1 t2 t3) ?_
 intro h' Z k
 exact⟨⟨_,Z.zz,rfl⟩,h h' Z k⟩
end
section
variable {X:Cx}{pins:List (Addr×Obj)}{σ:St}{H:Hp}{s:Shared}{h':Heap}{t':Nat}{fp:List Addr}
theorem Inv.turnedL (I:Inv X pins σ H s)(hf:∀ b∈fp,dM X pins H b)(k:∀ b o,b∉fp->s.heap.get? b=some o->h'.get? b=some o):Inv X pins σ H { s with heap:=h',toks:=t' }:=by
 have ntr:∀ b u,H b=some u->b∉fp:=λb u e hb=>by rw[(hf b hb).1] at e; cases e
 refine I.step (g':=s.gens) (d':=s.drawn) (ch:=fp) (λb hb=>?_) (λb o _ _ hc e _=>k b o hc e) (λb o _ _ hc e _=>⟨o.slots,k b o hc e⟩) (λ_ _ _ _ n=>n) (λb o hc e=>⟨o,k b o hc e⟩) (λ_ _ e=>e) (λ_ _ _ e=>e) (λb ps e=>⟨#[],by rw[e]; simp⟩) (λm hm=>?_) (λb u e=>?_) I.bare
 ·obtain⟨_,f1,_,f3,f4,f5⟩:=hf b hb
  exact⟨f3,f1,f4,f5⟩
 ·obtain⟨o,es,ep,ho,r⟩:=hm
  exact⟨o,es,ep,k _ o (λz=>(hf _ z).2.1 rfl) ho,r⟩
 ·refine(I.hok b u e).stay (λc v hc q=>k c v ?_ q) (λ_ q=>q) λ_ _ q=>q
  rcases hc with z | z
  ·rw[z]; exact ntr b u e
  ·exact ntr c _ z
theorem Inv.turnLaid {T:Addr}{o:HO}(I:Inv X pins σ H s)(hf:∀ b∈fp,dM X pins H b)(k:∀ b o,b∉fp->s.heap.get? b=some o->h'.get? b=some o)(hT:s.heap.objs.size<=T)(hT2:T∉fp)
  (new:dL X.prog X.w (upd H T o) h' T o):Inv X pins σ (upd H T o) { s with heap:=h',toks:=t' }:=by
 have hn:H T=none:=I.hok.fresh hT
 have ntr:∀ b u,H b=some u->b∉fp:=λb u e hb=>by rw[(hf b hb).1] at e; cases e
 have neT:∀ b (u:Obj),s.heap.get? b=some u->b≠T:=λb u e=>cQ (gO (bU e) hT)
 refine I.step (g':=s.gens) (d':=s.drawn) (ch:=fp) (λb hb=>?_) (λb o _ _ hc e _=>k b o hc e) (λb o _ _ hc e _=>⟨o.slots,k b o hc e⟩) (λb u _ e n=>by rw[aj (neT b u e)]; exact n) (λb o hc e=>⟨o,k b o hc e⟩)
  (λb xs e=>by rw[aj (hU e hn)]; exact e) (λb ob u e=>by rw[aj (hU e hn)]; exact e) (λb ps e=>⟨#[],by rw[aj (hU e hn),e]; simp⟩) (λm hm=>?_) (λb u e=>?_) I.bare
 ·obtain⟨_,f1,_,f3,f4,f5⟩:=hf b hb
  exact⟨f3,f1,f4,f5⟩
 ·obtain⟨o,es,ep,ho,r⟩:=hm
  exact⟨o,es,ep,k _ o (λz=>(hf _ z).2.1 rfl) ho,r⟩
 ·by_cases hb:b=T
  ·subst hb; rw[aF] at e; cases e; exact new
  ·rw[aj hb] at e
   refine(I.hok b u e).stay (λc v hc q=>k c v ?_ q) (λc q=>by rw[aj (hU q hn)]; exact q) λc xs q=>by rw[aj (hU q hn)]; exact q
   rcases hc with z | z
   ·rw[z]; exact ntr b u e
   ·exact ntr c _ z
end
def sg (x:Str)(i:Nat):V:=.str ⟨#[x.cps.getD i 0]⟩
theorem lM {x:Str}{i:Nat}(h:i < x.length):x.cps[i]? = some (x.cps.getD i 0):=by
 have h':i < x.cps.size:=h
 simp[wb,h']
def tO (x:Str):It:=⟨λi _=>i < x.length,λi H v H'=>H'=H/\v=sg x i,λi _=>x.length<=i⟩
def yy (x y:Str):It:=⟨λi _=>i < x.length/\i < y.length,λi H v H'=>∃ T,v=.ref T/\H T=none/\H'=upd H T (.tup [sg x i,sg y i]),λi _=>x.length<=i⟩
def yx (x y z:Str):It:=⟨λi _=>i < x.length/\i < y.length/\i < z.length,λi H v H'=>∃ T,v=.ref T/\H T=none/\H'=upd H T (.tup [sg x i,sg y i,sg z i]),λi _=>x.length<=i⟩
section
variable {P:Program}{w:World}{K:PySem.W.Frag}
theorem FT {tg:Expr}(x:Str)(it:Addr):i5 P w K tg (tO x) [it] it (λi h=>dI h it x i) where
 mem:=by simp
 obj:=λi h st b hb=>by
  have e:b=it:=by simpa using hb
  subst e
  exact st.obj
 keep:=λi h h' st k=>st.at λo e=>k it (by simp) o e
 item:=by
  intro X hP hw hK hc i pins s σ H E I hf st hg
  subst hP hw hK
  obtain⟨f0,f1,f2,f3,f4,f5⟩:=hf it (by simp)
  obtain⟨ty,t,st,z⟩:=st
  have fin:∀ h' t' tk,(z:ty = "str_ascii_iterator" ∨ ty = "str_iterator")->h'.IsStrIter it ty x t (i + 1)->Heap.SameBut it s.heap h'->∃ u,some (Value.str ⟨#[x.cps.getD i 0]⟩ t')=some u /\
    wpAny (model X.prog X.w) X.A (letOwnedTupleGo tg (.ref it) u) (λ_ s2=>∃ v H',Inv X pins σ H' s2/\RelV v u/\(tO x).yld i H v H'/\dI s2.heap it x (i + 1)/\∀ b∈[it],H' b=none) E { s with heap:=h',toks:=tk }:=by
   intro h' t' tk z st' sb
   have I1:Inv X pins σ H { s with heap:=h',toks:=tk }:=I.turned (λb o hb e=>(sb.2 b hb).trans e) f0 f1 f3 f4 f5
   obtain⟨o,e,c,d⟩:=id st'
   exact⟨_,rfl,vj (s:={ s with heap:=h',toks:=tk }) e c d (by rcases z with rfl | rfl <;> decide) ⟨sg x i,H,I1,⟨t',rfl⟩,⟨rfl,rfl⟩,⟨ty,t,st',z⟩,λb hb=>(hf b hb).1⟩⟩
  rcases z with rfl | rfl
  ·exact wpAny_pyNext_ascii_item st (lM hg) λh' st' sb=>fin h' _ _ (.inl rfl) st' sb
  ·exact wpAny_pyNext_wide_item st (lM hg) λh' st' sb=>fin h' _ _ (.inr rfl) st' sb
 done:=by
  intro X hP hw hK hc i pins s σ H E I hf st hg
  subst hP hw hK
  obtain⟨f0,f1,f2,f3,f4,f5⟩:=hf it (by simp)
  have hx:x.cps[i]? = none:=tQ hg
  obtain⟨ty,t,st,z⟩:=st
  rcases z with rfl | rfl
  ·exact wpAny_pyNext_ascii_end (I.ok.hd hc) st hx λh' eb=>⟨rfl,I.turned (t':=s.toks) (λb o hb e=>eb b o hb e) f0 f1 f3 f4 f5⟩
  ·exact wpAny_pyNext_wide_end (I.ok.hd hc) st hx λh' eb=>⟨rfl,I.turned (t':=s.toks) (λb o hb e=>eb b o hb e) f0 f1 f3 f4 f5⟩
 self:=λA i s Q E st h=>by
  obtain⟨ty,t,st,z⟩:=st
  rcases z with rfl | rfl
  ·exact wpAny_pyIter_striter_ascii st h
  ·exact wpAny_pyIter_striter_wide st h
def du (n:Nat):List Addr:=[n,n + 1,n + 2,n + 3,n + 4,n + 5]
def eG (n:Nat):List Addr:=[n,n + 1,n + 2,n + 3,n + 4]
theorem KI {n b:Nat}(h:¬ b∈du n):b < n∨n + 6<=b:=by
 unfold du at h
 simp only[bh,kr,kO,not_or] at h
 have h:¬ b=n/\¬ b=n + 1/\¬ b=n + 2/\¬ b=n + 3/\¬ b=n + 4/\¬ b=n + 5:=h
 omega
theorem KJ {n b:Nat}(h:¬ b∈eG n):b < n∨n + 5<=b:=by
 unfold eG at h
 simp only[bh,kr,kO,not_or] at h
 have h:¬ b=n/\¬ b=n + 1/\¬ b=n + 2/\¬ b=n + 3/\¬ b=n + 4:=h
 omega
theorem Z3.keep {n:Nat}{x y z:Str}{i:Nat}{f:Value}{h h':Heap}(Z:Z3 n x y z i f h)(k:∀ b∈du n,∀ o,h.get? b=some o->h'.get? b=some o):Z3 n x y z i f h':=by
 obtain⟨hz,hTI,⟨a,b,c,hTO⟩,i1,i2,i3⟩:=Z
 exact⟨k _ (by simp[du]) _ hz,k _ (by simp[du]) _ hTI,⟨a,b,c,k _ (by simp[du]) _ hTO⟩,i1.at (k _ (by simp[du])),i2.at (k _ (by simp[du])),i3.at (k _ (by simp[du]))⟩
theorem Z2.keep {n:Nat}{x y:Str}{i:Nat}{f:Value}{h h':Heap}(Z:Z2 n x y i f h)(k:∀ b∈eG n,∀ o,h.get? b=some o->h'.get? b=some o):Z2 n x y i f h':=by
 obtain⟨hz,hTI,⟨a,b,hTO⟩,i1,i2⟩:=Z
 exact⟨k _ (by simp[eG]) _ hz,k _ (by simp[eG]) _ hTI,⟨a,b,k _ (by simp[eG]) _ hTO⟩,i1.at (k _ (by simp[eG])),i2.at (k _ (by simp[eG]))⟩
theorem Z3.ob {n:Nat}{x y z:Str}{i:Nat}{f:Value}{h:Heap}(Z:Z3 n x y z i f h):∀ b∈du n,∃ o,h.get? b=some o/\∀ v,o.data≠.cell v:=by
 obtain⟨hz,hTI,⟨a,b,c,hTO⟩,i1,i2,i3⟩:=Z
 intro b hb
 unfold du at hb
 simp only[bh,kr,kO] at hb
 rcases hb with rfl | rfl | rfl | rfl | rfl | rfl
 ·exact i1.obj
 ·exact i2.obj
 ·exact i3.obj
 ·exact⟨_,hTI,λv q=>by cases q⟩
 ·exact⟨_,hTO,λv q=>by cases q⟩
 ·exact⟨_,hz,λv q=>by cases q⟩
theorem Z2.ob {n:Nat}{x y:Str}{i:Nat}{f:Value}{h:Heap}(Z:Z2 n x y i f h):∀ b∈eG n,∃ o,h.get? b=some o/\∀ v,o.data≠.cell v:=by
 obtain⟨hz,hTI,⟨a,b,hTO⟩,i1,i2⟩:=Z
 intro b hb
 unfold eG at hb
 simp only[bh,kr,kO] at hb
 rcases hb with rfl | rfl | rfl | rfl | rfl
 ·exact i1.obj
 ·exact i2.obj
 ·exact⟨_,hTI,λv q=>by cases q⟩
 ·exact⟨_,hTO,λv q=>by cases q⟩
 ·exact⟨_,hz,λv q=>by cases q⟩
theorem FQ {elts:List Expr}{k:Nat}{pos:Pos}(n:Nat)(x y z:Str):i5 P w K (.Tuple elts k pos) (yx x y z) (du n) (n + 5) (λi h=>Z3 n x y z i .none h) where
 mem:=by simp[du]
 obj:=λi h Z=>Z.ob
 keep:=λi h h' Z k=>Z.keep k
 item:=by
  intro X hP hw hK hc i pins s σ H E I hf Z hg
  subst hP hw hK
  obtain⟨g1,g2,g3⟩:=hg
  have lt:(n + 5:Nat) < s.heap.objs.size:=bU Z.zz
  refine zF Z.zz rfl (FE Z (lM g1) (lM g2) (lM g3) λh' t1 t2 t3 tk Z' hT hk=>?_)
  refine⟨_,rfl,zH (s:={ s with heap:=h',toks:=tk }) Z'.zz λh'' zz sb=>?_⟩
  have ne:s.heap.objs.size∉du n:=λq=>by
   obtain⟨o,e,_⟩:=Z.ob _ q
   exact ia _ (bU e)
  have hz2:(n + 5:Nat)∈du n:=by simp[du]
  have neZ:∀ b:Nat,b∉du n->b≠n + 5:=λb hb q=>hb (q ▸ hz2)
  have hT2:=sb.extBut _ _ (ah (neZ _ ne)) hT
  have I1:Inv X pins σ (upd H s.heap.objs.size (.tup [sg x i,sg y i,sg z i])) { s with heap:=h'',toks:=tk }:=by
   refine I.turnLaid (fp:=du n) hf (λb o hb e=>sb.extBut _ _ (ah (neZ b hb)) (hk b o (KI hb) e)) (aY _) ne ?_
   exact⟨by show 3<=sizeLine; rw[fG]; omega,_,.cons ⟨t1,rfl⟩ (.cons ⟨t2,rfl⟩ (.cons ⟨t3,rfl⟩ .nil)),⟨_,hT2,rfl,_,rfl⟩⟩
  have fr:H s.heap.objs.size=none:=I.hok.fresh (aY _)
  obtain⟨q1,q2,⟨a,b,c,q3⟩,j1,j2,j3⟩:=Z'
  refine⟨.ref s.heap.objs.size,_,I1,rfl,⟨_,rfl,fr,rfl⟩,⟨zz,sb.extBut _ _ (ah (by omega)) q2,⟨a,b,c,sb.extBut _ _ (ah (by omega)) q3⟩,j1.at λo e=>sb.extBut _ _ (ah (by omega)) e,j2.at λo e=>sb.extBut _ _ (ah (by omega)) e,j3.at λo e=>sb.extBut _ _ (ah (by omega)) e⟩,λb hb=>?_⟩
  have nb:b≠s.heap.objs.size:=λq=>by rw[q] at hb; exact ne hb
  rw[aj nb]
  exact(hf b hb).1
 done:=by
  intro X hP hw hK hc i pins s σ H E I hf Z hg
  subst hP hw hK
  have hx:x.cps[i]? = none:=tQ hg
  refine zG Z.zz rfl (zI (A:=X.A.in1) (I.ok.hd hc) Z.zz Z.ti Z.i1 hx (by omega) λh' e hk he=>?_)
  obtain⟨o,e1,e2⟩:=he
  exact⟨e,o,rfl,e1,e2,rfl,I.turnedL (fp:=du n) (t':=s.toks) hf λb o hb q=>hk b o (λz=>hb (by simp[du,z])) (λz=>hb (by simp[du,z])) q⟩
 self:=λA i s Q E Z h=>tR Z.zz rfl h
theorem FR {elts:List Expr}{k:Nat}{pos:Pos}(n:Nat)(x y:Str):i5 P w K (.Tuple elts k pos) (yy x y) (eG n) (n + 4) (λi h=>Z2 n x y i .none h) where
 mem:=by simp[eG]
 obj:=λi h Z=>Z.ob
 keep:=λi h h' Z k=>Z.keep k
 item:=by
  intro X hP hw hK hc i pins s σ H E I hf Z hg
  subst hP hw hK
  obtain⟨g1,g2⟩:=hg
  have lt:(n + 4:Nat) < s.heap.objs.size:=bU Z.zz
  refine zF Z.zz rfl (FG Z (lM g1) (lM g2) λh' t1 t2 tk Z' hT hk=>?_)
  refine⟨_,rfl,zH (s:={ s with heap:=h',toks:=tk }) Z'.zz λh'' zz sb=>?_⟩
  have ne:s.heap.objs.size∉eG n:=λq=>by
   obtain⟨o,e,_⟩:=Z.ob _ q
   exact ia _ (bU e)
  have hz2:(n + 4:Nat)∈eG n:=by simp[eG]
  have neZ:∀ b:Nat,b∉eG n->b≠n + 4:=λb hb q=>hb (q ▸ hz2)
  have hT2:=sb.extBut _ _ (ah (neZ _ ne)) hT
  have I1:Inv X pins σ (upd H s.heap.objs.size (.tup [sg x i,sg y i])) { s with heap:=h'',toks:=tk }:=by
   refine I.turnLaid (fp:=eG n) hf (λb o hb e=>sb.extBut _ _ (ah (neZ b hb)) (hk b o (KJ hb) e)) (aY _) ne ?_
   exact⟨by show 2<=sizeLine; rw[fG]; omega,_,.cons ⟨t1,rfl⟩ (.cons ⟨t2,rfl⟩ .nil),⟨_,hT2,rfl,_,rfl⟩⟩
  have fr:H s.heap.objs.size=none:=I.hok.fresh (aY _)
  obtain⟨q1,q2,⟨a,b,q3⟩,j1,j2⟩:=Z'
  refine⟨.ref s.heap.objs.size,_,I1,rfl,⟨_,rfl,fr,rfl⟩,⟨zz,sb.extBut _ _ (ah (by omega)) q2,⟨a,b,sb.extBut _ _ (ah (by omega)) q3⟩,j1.at λo e=>sb.extBut _ _ (ah (by omega)) e,j2.at λo e=>sb.extBut _ _ (ah (by omega)) e⟩,λb hb=>?_⟩
  have nb:b≠s.heap.objs.size:=λq=>by rw[q] at hb; exact ne hb
  rw[aj nb]
  exact(hf b hb).1
 done:=by
  intro X hP hw hK hc i pins s σ H E I hf Z hg
  subst hP hw hK
  have hx:x.cps[i]? = none:=tQ hg
  refine zG Z.zz rfl (zI (A:=X.A.in1) (I.ok.hd hc) Z.zz Z.ti Z.i1 hx (by omega) λh' e hk he=>?_)
  obtain⟨o,e1,e2⟩:=he
  exact⟨e,o,rfl,e1,e2,rfl,I.turnedL (fp:=eG n) (t':=s.toks) hf λb o hb q=>hk b o (λz=>hb (by simp[eG,z])) (λz=>hb (by simp[eG,z])) q⟩
 self:=λA i s Q E Z h=>tR Z.zz rfl h
end
section
variable {X:Cx}
def Lu (tl:TE):TI:=λσ H R=>tl σ H λx H1=>∃ z,x=.str z/\R (tO z) H1
theorem lY {tg l:Expr}{tl:TE}(hl:PE X l tl):PI X tg l (Lu tl):=by
 intro pins s σ H R I h
 refine aZ (hl pins s σ H _ I h) λv s1 ⟨x,H1,I1,r1,q1⟩=>?_
 obtain⟨z,rfl,q⟩:=q1
 obtain⟨t,rfl⟩:=r1
 refine pB λo st=>?_
 refine⟨s1.heap.objs.size,[s1.heap.objs.size],_,_,H1,rfl,I1.kept (t':=s1.toks) λb o e=>bj _ e,FT z _,st,λb hb=>?_,q⟩
 have e:b=s1.heap.objs.size:=by simpa using hb
 subst e
 exact I1.fpOk (aY _) (I1.hok.fresh (aY _))
def Ls (ta:TA):TI:=λσ H R=>ta σ H λvs H1=>∃ x y,vs=[.str x,.str y]/\R (yy x y) H1
def Lr (ta:TA):TI:=λσ H R=>ta σ H λvs H1=>∃ x y z,vs=[.str x,.str y,.str z]/\R (yx x y z) H1
theorem JH {elts:List Expr}{k:Nat}{tp:Pos}{a b:Expr}{ta:TA}{p pos:Pos}(hg:Gl X "zip") (hm:X.mg "zip" = none) (ha:PA X [a,b] ta) (hs:starEach [a,b] X.env=(false,eval a X.env) :: starEach [b] X.env:=by rfl) (hpl:(backTo pos (starEach [b] X.env)).any (·.1)=false:=by rfl) :
  PI X (.Tuple elts k tp) (.Call (.Name "zip" p) [a,b] [] pos) (Ls ta):=by
 intro pins s σ H R I h
 refine Call_ (jx I hg hm boot_zip (pI (aZ (ha pos pins s σ H _ I h) λus s1 ⟨vs,H1,I1,r1,q1⟩=>?_) hs hpl))
 obtain⟨x,y,rfl,q⟩:=q1
 obtain⟨u,v,rfl,ru,rv⟩:=r1.two
 obtain⟨t1,rfl⟩:=ru
 obtain⟨t2,rfl⟩:=rv
 refine N9 λh' Z k=>tR (s:={ s1 with heap:=h' }) Z.zz rfl ?_
 refine⟨_,eG s1.heap.objs.size,_,_,H1,rfl,I1.kept (t':=s1.toks) k,FR _ x y,Z,λb hb=>?_,q⟩
 have hb':s1.heap.objs.size<=b:=by
  unfold eG at hb
  simp only[bh,kr,kO] at hb
  rcases hb with rfl | rfl | rfl | rfl | rfl
  ·exact aY _
  all_goals exact Nat.le_add_right _ _
 exact I1.fpOk hb' (I1.hok.fresh hb')
theorem JG {elts:List Expr}{k:Nat}{tp:Pos}{a b c:Expr}{ta:TA}{p pos:Pos}(hg:Gl X "zip") (hm:X.mg "zip" = none) (ha:PA X [a,b,c] ta) (hs:starEach [a,b,c] X.env=(false,eval a X.env) :: starEach [b,c] X.env:=by rfl) (hpl:(backTo pos (starEach [b,c] X.env)).any (·.1)=false:=by rfl) :
  PI X (.Tuple elts k tp) (.Call (.Name "zip" p) [a,b,c] [] pos) (Lr ta):=by
 intro pins s σ H R I h
 refine Call_ (jx I hg hm boot_zip (pI (aZ (ha pos pins s σ H _ I h) λus s1 ⟨vs,H1,I1,r1,q1⟩=>?_) hs hpl))
 obtain⟨x,y,z,rfl,q⟩:=q1
 cases r1 with
 | cons ru r1 =>
  obtain⟨v,v2,rfl,rv,rw'⟩:=ai.two r1
  obtain⟨t1,rfl⟩:=ru
  obtain⟨t2,rfl⟩:=rv
  obtain⟨t3,rfl⟩:=rw'
  refine N8 λh' Z k=>tR (s:={ s1 with heap:=h' }) Z.zz rfl ?_
  refine⟨_,du s1.heap.objs.size,_,_,H1,rfl,I1.kept (t':=s1.toks) k,FQ _ x y z,Z,λb hb=>?_,q⟩
  have hb':s1.heap.objs.size<=b:=by
   unfold du at hb
   simp only[bh,kr,kO] at hb
   rcases hb with rfl | rfl | rfl | rfl | rfl | rfl
   ·exact aY _
   all_goals exact Nat.le_add_right _ _
  exact I1.fpOk hb' (I1.hok.fresh hb')
inductive Kd where
 | non | bl | int | str | lst | tup
 deriving DecidableEq
def kdIs (K:PySem.W.Frag)(H:Hp):V->Kd->Prop
 | .non,.non=>True
 | .bl _,.bl=>True
 | .int _,.int=>True
 | .str _,.str=>True
 | .ref a,.lst=>∃ xs,aD K H a xs
 | .ref a,.tup=>∃ xs,bT K H a xs
 | _,_=>False
def pC:Kd->Kd->Bool
 | .non,.non=>true | .bl,.bl=>true | .int,.int=>true | .str,.str=>true | .lst,.lst=>true | .tup,.tup=>true
 | _,_=>false
def isT (k:Kd)(T:String):Option Bool :=
 if T = "str" then some (pC k .str) else if T = "int" then some (pC k .int || pC k .bl) else if T = "bool" then some (pC k .bl) else if T = "list" then some (pC k .lst) else if T = "tuple" then some (pC k .tup) else none
theorem jP:gZ X (.builtin "isinstance") (λxs H Q=>∃ x k T b,xs=[x,.ty T]/\kdIs X.K H x k/\isT k T=some b/\Q (.bl b) H):=by
 intro pins s σ H xs us Q I r h
 obtain⟨x,k,T,b,rfl,hk,ht,q⟩:=h
 obtain⟨u,v,rfl,ru,rv⟩:=r.two
 cases rv
 have J:∀ t,EP X pins σ Q (.bool b) { s with toks:=t }:=λt=>⟨.bl b,H,I.tok t,rfl,q⟩
 have J0:EP X pins σ Q (.bool b) s:=⟨.bl b,H,I,rfl,q⟩
 have lst:∀ a ys,aD X.K H a ys->∃ o,s.heap.get? a=some o/\o.cls=.type "list" := λa ys hq=>by
  obtain⟨its,_,⟨o,n,e,c,_⟩,_⟩:=I.list hq
  exact⟨o,e,c⟩
 have tup:∀ a ys,bT X.K H a ys->∃ o,s.heap.get? a=some o/\o.cls=.type "tuple" := λa ys hq=>by
  obtain⟨its,_,⟨o,e,c,_⟩,_⟩:=I.tuple hq
  exact⟨o,e,c⟩
 unfold isT at ht
 split at ht
 ·rename_i eT
  subst eT
  cases k <;> cases ht <;> cases x <;> first | exact hk.elim | skip
  ·cases ru; exact IsiPair.NoneType_str (J _)
  ·cases ru; exact IsiPair.bool_str (J _)
  ·obtain⟨t,rfl⟩:=ru; exact IsiPair.int_str (J _)
  ·obtain⟨t,rfl⟩:=ru; exact IsiPair.str_str J0
  ·cases ru; obtain⟨ys,hq⟩:=hk; obtain⟨o,e,c⟩:=lst _ _ hq; exact IsiPair.list_str e c (J _)
  ·cases ru; obtain⟨ys,hq⟩:=hk; obtain⟨o,e,c⟩:=tup _ _ hq; exact IsiPair.tuple_str e c (J _)
 split at ht
 ·rename_i eT
  subst eT
  cases k <;> cases ht <;> cases x <;> first | exact hk.elim | skip
  ·cases ru; exact IsiPair.NoneType_int (J _)
  ·cases ru; exact IsiPair.bool_int J0
  ·obtain⟨t,rfl⟩:=ru; exact IsiPair.int_int J0
  ·obtain⟨t,rfl⟩:=ru; exact IsiPair.str_int (J _)
  ·cases ru; obtain⟨ys,hq⟩:=hk; obtain⟨o,e,c⟩:=lst _ _ hq; exact IsiPair.list_int e c (J _)
  ·cases ru; obtain⟨ys,hq⟩:=hk; obtain⟨o,e,c⟩:=tup _ _ hq; exact IsiPair.tuple_int e c (J _)
 split at ht
 ·rename_i eT
  subst eT
  cases k <;> cases ht <;> cases x <;> first | exact hk.elim | skip
  ·cases ru; exact IsiPair.NoneType_bool (J _)
  ·cases ru; exact IsiPair.bool_bool J0
  ·obtain⟨t,rfl⟩:=ru; exact IsiPair.int_bool (J _)
  ·obtain⟨t,rfl⟩:=ru; exact IsiPair.str_bool (J _)
  ·cases ru; obtain⟨ys,hq⟩:=hk; obtain⟨o,e,c⟩:=lst _ _ hq; exact IsiPair.list_bool e c (J _)
  ·cases ru; obtain⟨ys,hq⟩:=hk; obtain⟨o,e,c⟩:=tup _ _ hq; exact IsiPair.tuple_bool e c (J _)
 split at ht
 ·rename_i eT
  subst eT
  cases k <;> cases ht <;> cases x <;> first | exact hk.elim | skip
  ·cases ru; exact IsiPair.NoneType_list (J _)
  ·cases ru; exact IsiPair.bool_list (J _)
  ·obtain⟨t,rfl⟩:=ru; exact IsiPair.int_list (J _)
  ·obtain⟨t,rfl⟩:=ru; exact IsiPair.str_list (J _)
  ·cases ru; obtain⟨ys,hq⟩:=hk; obtain⟨o,e,c⟩:=lst _ _ hq; exact IsiPair.list_list e c J0
  ·cases ru; obtain⟨ys,hq⟩:=hk; obtain⟨o,e,c⟩:=tup _ _ hq; exact IsiPair.tuple_list e c (J _)
 split at ht
 ·rename_i eT
  subst eT
  cases k <;> cases ht <;> cases x <;> first | exact hk.elim | skip
  ·cases ru; exact IsiPair.NoneType_tuple (J _)
  ·cases ru; exact IsiPair.bool_tuple (J _)
  ·obtain⟨t,rfl⟩:=ru; exact IsiPair.int_tuple (J _)
  ·obtain⟨t,rfl⟩:=ru; exact IsiPair.str_tuple (J _)
  ·cases ru; obtain⟨ys,hq⟩:=hk; obtain⟨o,e,c⟩:=lst _ _ hq; exact IsiPair.list_tuple e c (J _)
  ·cases ru; obtain⟨ys,hq⟩:=hk; obtain⟨o,e,c⟩:=tup _ _ hq; exact IsiPair.tuple_tuple e c J0
 cases ht
theorem zQ:∀{bs:List Bool}{us:List Value},ai (bs.map V.bl) us->us=bs.map Value.bool
 | [],_,h=>by cases h; rfl
 | b :: r,us,h=>by
  cases h with
  | cons r1 r2=>cases r1; rw[zQ r2]; rfl
theorem Ni:∀(bs:List Bool),((List.range bs.length).all λi=>bs.getD i false)=bs.all id:=λbs=>by
 have e:(List.range bs.length).map (λi=>bs.getD i false)=bs:=by
  apply List.ext_getElem
  ·simp
  ·intro i h1 h2
   simp at h1
   simp[h1]
 conv=>rhs; rw[<- e]
 rw[List.all_map]; rfl
theorem Fd {prog:Program}{w:World}{A:Around}(bs:List Bool):TruthOf prog w A (λi v=>((bs.map Value.bool).toArray)[i]? = some v) (λi=>bs.getD i false):=by
 intro i v s Q E hP hQ
 have hP:(bs.map Value.bool)[i]? = some v:=by simpa using hP
 rw[ar] at hP
 cases e:bs[i]? with
 | none=>rw[e] at hP; cases hP
 | some b =>
  rw[e] at hP
  cases hP
  refine o9 ?_
  have:bs.getD i false=b:=by rw[ib,e]; rfl
  have hQ:Q (bs.getD i false) s:=hQ
  rw[this] at hQ
  exact hQ
theorem j5 (hc:X.calm=true):gZ X (.builtin "all") (λxs H Q=>∃(a:Addr) (bs:List Bool),xs=[.ref a]/\aD X.K H a (bs.map V.bl)/\Q (.bl (bs.all id)) H):=by
 intro pins s σ H xs us Q I r h
 obtain⟨a,bs,rfl,hq,q⟩:=h
 obtain⟨u,rfl,ru⟩:=r.one
 cases ru
 obtain⟨its,rv,p,hz⟩:=I.list hq
 have ei:=zQ rv
 subst ei
 refine call_all_walk (wpAny_pyIter_list p.isList ?_)
 have ne:a≠s.heap.objs.size:=by obtain⟨o,n,e,_⟩:=p; exact cQ (bU e)
 have hh:X.A.in1.handled=none:=I.ok.hd hc
 refine⟨s.heap.objs.size,_,_,_,_,_,_,rfl,Walks.list hh _ a ne (bs.map Value.bool).toArray,⟨⟨_,fD _ rfl,rfl,rfl⟩,p.isList.push _⟩,Fd bs,λh' tk kk=>?_⟩
 have e2:(List.range (bs.map Value.bool).toArray.size).all (λi=>bs.getD i false)=bs.all id:=by
  rw[fX,aI]; exact Ni bs
 rw[e2]
 exact⟨.bl (bs.all id),H,I.kept λb o e=>kk b o (λz=>by
  have z:b=s.heap.objs.size:=by simpa using z
  exact absurd (bU e) (by rw[z]; exact ia _)) (bj _ e),rfl,q⟩
theorem zM:∀{ys:List Str}{us:List Value},ai (ys.map V.str) us->StrsAre us ys
 | [],_,h=>by cases h; exact .nil
 | y :: r,us,h=>by
  cases h with
  | cons r1 r2=>obtain⟨t,rfl⟩:=r1; exact .cons y t (zM r2)
def Iw (K:PySem.W.Frag):V->List V->Hp->VK->Prop:=λx vs H Q=>∃ sep a ys,x=.str sep/\vs=[.ref a]/\aD K H a (ys.map V.str)/\sep.length<=16/\(ys.map (·.length)).sum + ys.length<=1048576/\Q (.str (Txt.join sep ys)) H
theorem rB:yo X "str.join" (Iw X.K):=by
 intro pins s σ H x vs v us Q I rx rv h
 obtain⟨sep,a,ys,rfl,rfl,hq,h1,h2,q⟩:=h
 obtain⟨t,rfl⟩:=rx
 obtain⟨u,rfl,ru⟩:=rv.one
 cases ru
 obtain⟨its,rv,p,hz⟩:=I.list hq
 exact join_listW p.isList (by simpa using zM rv) h1 h2 λt' k=>⟨.str _,H,I.tok k,⟨t',rfl⟩,q⟩
def oK (z:Str)(n:Int):Str:=if n < 1 then Str.empty else if (n == 1 || z.length == 0)=true then z else ⟨(List.replicate n.toNat z.cps).foldl (· ++ ·) #[]⟩
theorem Cp (a:Array Nat):∀(k:Nat) (b:Array Nat),((List.replicate k a).foldl (· ++ ·) b).size=b.size + k * a.size
 | 0,b=>by simp
 | k + 1,b=>by
  rw[List.replicate_succ,List.foldl_cons,Cp a k]
  rw[Array.size_append,Nat.succ_mul]
  omega
theorem BK:d9 X (binaryOp .Mult) (λx y H Q=>∃ z n,x=.str z/\y=.int n/\0<=n/\n<=1000/\z.length<=1000/\Q (.str (oK z n)) H):=by
 intro pins s σ H x y v u Q I rx ry h
 obtain⟨z,n,rfl,rfl,h1,h2,h3,q⟩:=h
 obtain⟨t,rfl⟩:=rx
 obtain⟨t',rfl⟩:=ry
 have hm:z.length * n.toNat<=1000000:=by
  have:z.length * n.toNat<=1000 * 1000:=tG h3 (by omega)
  omega
 refine PySem.P.mul_str ?_ (λhn _=>?_) (λhn _=>?_) ?_
 ·have e1:¬ n < -(2 ^ 63:Int):=by omega
  have e2:¬ n ≥ 2 ^ 63:=by omega
  rw[cy e1,cy e2]; rfl
 ·have e:(z.length:Int) * n<=2 ^ 63 - 1:=by
   have e1:(z.length:Int) * n=((z.length * n.toNat:Nat):Int):=by
    rw[Int.natCast_mul]
    congr 1
    omega
   omega
  have:=Int.le_ediv_of_mul_le (show 0 < n by omega) e
  omega
 ·have e:¬ z.length * n.toNat > sizeLine:=by rw[fG]; omega
  exact cy e
 ·unfold oK at q
  split
  ·rename_i c
   rw[aP c] at q
   exact⟨by decide,⟨.str _,H,I.tok _,⟨_,rfl⟩,q⟩⟩
  ·rename_i c
   rw[aN c] at q
   split
   ·rename_i c2
    rw[aP c2] at q
    exact⟨.str _,H,I,⟨_,rfl⟩,q⟩
   ·rename_i c2
    rw[aN c2] at q
    refine⟨?_,⟨.str _,H,I.tok _,⟨_,rfl⟩,q⟩⟩
    show((List.replicate n.toNat z.cps).foldl (· ++ ·) #[]).size<=sizeLine
    rw[Cp,fG]
    have e:n.toNat * z.cps.size=z.length * n.toNat:=Nat.mul_comm _ _
    have e0:(#[]:Array Nat).size=0:=rfl
    omega
end
structure Df (K:PySem.W.Frag) (mg:Str->Option Value) (x:Str) (st:Stmt) (ps:List Str) (f:Addr) (fd:FuncData):Prop where
 F:ic K x x st f fd
 mg:mg x=some (.ref f)
 b:Binds K fd ps []
theorem aJ {P:Program}{w:World}{X:Cx}:mF (aH P w) X E0:=λ_ _ _ _ _ _ _ h=>by
 obtain⟨_,_,_,_,_,_,_,_,_,_,_,_,_,_,_,q⟩:=h
 exact q.elim
section
variable {CX:gz}{P:Program}{w:World}{K:PySem.W.Frag}{mg:Str->Option Value}{base:Heap}{k:Nat}{f c:Addr}{qual:Str}{params:Arguments}{body:Expr}{scope:Scope}{cl:List (Str×Addr)}{pm ctv:Value}{N:List Str}{σ:St}{sp:Sp}
theorem ic.okN {x qual:Str}{st:Stmt}{f:Addr}{fd:FuncData}{N ps:List Str}{k:Nat}{sp:Sp}(F:ic K x qual st f fd)(S:FnScope N ps (aS st))(len:∀ vs H Q E,sp vs H Q E->vs.length=ps.length)
  (hbody:∀(cdv:Value) (A:Around) (outer:List Env) (s:Shared) (H:Hp) (vs:List V) (Q:VK) (E:XK),dJ k (A.deeper (envOfC qual (aS st) s.heap.objs.size f cdv))->sp vs H Q E ->
   ∃ t,iZ (jO (aH P w) P w K mg base N qual (aS st) f cdv A outer s H E).nox (dH st) t/\t { nx:=λ_ H'=>Q .non H',rt:=Q } (start N vs) H):aG P w K mg base (aH P w) (k + 1) f fd ps sp:=by
 obtain⟨oc,od,kV,doc,pm,an,cdv,ct,osl,rfl,lk,hcd⟩:=F.ex
 refine ME lk hcd S len λA outer s H vs Q E hr hsp=>?_
 obtain⟨t,h,q⟩:=hbody cdv A outer s H vs Q E hr hsp
 exact⟨t,h.nox,q⟩
theorem Mb {h:Heap}(X:K.In h)(G:h.Ns mainGlobals mg){x:Str}{st:Stmt}{ps:List Str}{f:Addr}{oc:Value}{od an:Option Addr}{osl:Array (Option Value)}{kV doc pm cdv ct:Value}(a:PySem.W.nsIn K mainGlobals x=some (some (.ref f)))
  (l:K.lookup f=some ⟨oc,od,.func (PySem.W.fnOf x x (hZ st) (dH st) (aS st) .none kV doc pm an cdv ct),osl⟩) (c:PySem.W.codeIn K cdv x=true) (k:PySem.W.keepIn K (.ref f)=true)
  (hb:∀(kV doc pm:Value) (an:Option Addr) (cdv ct:Value) (us:List Value),us.length=ps.length->bindArgs (PySem.W.fnOf x x (hZ st) (dH st) (aS st) .none kV doc pm an cdv ct) ⟨us,[]⟩=pure (ps.zip us)) :
  Df K mg x st ps f (PySem.W.fnOf x x (hZ st) (dH st) (aS st) .none kV doc pm an cdv ct) :=
 have F:=nD (st:=st) l c k
 ⟨F,wH X G a,F.binds hb⟩
end
section
variable {X:Cx}{k:Nat}{f:Addr}{fd:FuncData}{ps:List Str}{sp:Sp}{x:Str}{st:Stmt}{p pos:Pos}{e:Expr}{es:List Expr}{t:TA}{E:XK}
theorem aO (D:Df X.K X.mg x st ps f fd)(G:aG X.prog X.w X.K X.mg X.base (aH X.prog X.w) k f fd ps sp)(hr:dJ k X.A)(hx:mF (aH X.prog X.w) X E)(ha:PA X (e :: es) t)(hg:Gl X x:=by rfl)
  (hdb:(x == ("__debug__" : Str))=false:=by decide) (he:starEach (e :: es) X.env=(false,eval e X.env) :: starEach es X.env:=by rfl) (hpl:(backTo pos (starEach es X.env)).any (·.1)=false:=by rfl) :
  PE X (.Call (.Name x p) (e :: es) [] pos) (qI sp [] E t):=JO G hr hg D.mg D.F.kp D.b .nil hx ha hdb he hpl
end
def cd (b:Bool):Nat:=if b then 121 else 110
def sn (b:Bool):V:=.str ⟨#[cd b]⟩
inductive Dt where
 | non | bl (b:Bool) | int (i:Int) | str (x:Str) | lst (ds:List Dt) | tup (ds:List Dt)
inductive cM (K:PySem.W.Frag) (H:Hp):V->Dt->Prop
 | non:cM K H .non .non
 | bl (b:Bool):cM K H (.bl b) (.bl b)
 | int (i:Int):cM K H (.int i) (.int i)
 | str (x:Str):cM K H (.str x) (.str x)
 | lst {a:Addr} {xs:List V} {ds:List Dt}:aD K H a xs->xs.length=ds.length->ds.length<=5000->(∀(i:Nat) x d,xs[i]? = some x->ds[i]? = some d->cM K H x d)->cM K H (.ref a) (.lst ds)
 | tup {a:Addr} {xs:List V} {ds:List Dt}:bT K H a xs->xs.length=ds.length->ds.length<=5000->(∀(i:Nat) x d,xs[i]? = some x->ds[i]? = some d->cM K H x d)->cM K H (.ref a) (.tup ds)
theorem aB.seqT {K:PySem.W.Frag}{H H':Hp}{a:Addr}{xs:List V}(e:aB H H')(h:bT K H a xs):bT K H' a xs:=by
 rcases h with(h | ⟨o,h⟩) | h
 ·exact .inl (.inl (e _ _ h))
 ·exact .inl (.inr ⟨o,e _ _ h⟩)
 ·exact .inr h
theorem cM.mono {K:PySem.W.Frag}{H H':Hp}(e:aB H H'):∀{v:V}{d:Dt},cM K H v d->cM K H' v d:=by
 intro v d h
 induction h with
 | non=>exact .non
 | bl b=>exact .bl b
 | int i=>exact .int i
 | str x=>exact .str x
 | lst h1 h2 h3 _ ih=>exact .lst (e.seq h1) h2 h3 ih
 | tup h1 h2 h3 _ ih=>exact .tup (e.seqT h1) h2 h3 ih
def Dt.deep:Dt->Nat
 | .lst ds=>1 + deeps ds
 | .tup ds=>1 + deeps ds
 | _=>0
where deeps:List Dt->Nat
 | []=>0
 | d :: r=>max d.deep (deeps r)
theorem rX:∀{ds:List Dt}{i:Nat}{d:Dt},ds[i]? = some d->d.deep<=Dt.deep.deeps ds
 | _ :: _,0,_,h=>by simp at h; subst h; exact Nat.le_max_left _ _
 | _ :: r,i + 1,d,h=>b8 (rX (ds:=r) (i:=i) (by simpa using h)) (Nat.le_max_right _ _)
def Dt.eqb:Dt->Dt->Bool
 | .non,.non=>true
 | .bl a,.bl b=>a == b
 | .int a,.int b=>a == b
 | .str a,.str b=>decide (a=b)
 | .lst a,.lst b=>eqbs a b
 | .tup a,.tup b=>eqbs a b
 | _,_=>false
where eqbs:List Dt->List Dt->Bool
 | [],[]=>true
 | a :: r,b :: s=>a.eqb b && eqbs r s
 | _,_=>false
theorem aB.new {H:Hp}{p:Addr}{o:HO}(h:H p=none):aB H (upd H p o):=λb u e=>by rw[aj (hU e h)]; exact e
section
variable {X:Cx}{st:Stmt}{t:TS}
def GC (M:St->Hp->Prop)(t:TS):TS:=λD σ H=>t { D with nx:=M } σ H/\∀ σ' H',M σ' H'->D.nx σ' H'
theorem vG (M:St->Hp->Prop)(h:PS X st t):PS X st (GC M t):=by
 intro pins s σ H D I q
 obtain⟨q1,q2⟩:=q
 refine aZ (h pins s σ H _ I q1) λf s1 r=>?_
 cases f with
 | next=>obtain⟨σ',H',J,m⟩:=r; exact⟨σ',H',J,q2 σ' H' m⟩
 | ret v=>exact r
 | brk=>exact r
 | cont=>exact r
end
section
variable {p:Addr}{g:TG}{tt:TT}{te:TE}{σ0:St}{H0:Hp}{Q:Hp->Prop}{x y z:Str}
theorem rb (Pv:Nat->St->Hp->Prop)(h0:Pv 0 σ0 H0)(hs:∀ i σ H,i < x.length->Pv i σ H->lD p g tt te (Pv (i + 1)) (sg x i) σ H)(hd:∀ σ H,Pv x.length σ H->Q H):iO (tO x) p g tt te σ0 H0 Q:=by
 refine⟨λi m σ H=>m=x.length - i/\i<=x.length/\Pv i σ H,⟨x.length,by simp,bX _,h0⟩,?_⟩
 rintro i m σ H ⟨rfl,hi,q⟩
 by_cases hlt:i < x.length
 ·refine .inr ⟨hlt,Pv (i + 1),λσ' H' r=>⟨x.length - (i + 1),by omega,rfl,hlt,r⟩,λv H' r=>?_⟩
  obtain⟨e,r⟩:=r
  subst e r
  exact hs i σ _ hlt q
 ·have e:i=x.length:=by omega
  subst e
  exact .inl ⟨aY _,hd σ H q⟩
theorem NN (Pv:Nat->St->Hp->Prop)(h0:Pv 0 σ0 H0)(hxy:x.length<=y.length)(hs:∀ i T σ H,i < x.length->H T=none->Pv i σ H->lD p g tt te (Pv (i + 1)) (.ref T) σ (upd H T (.tup [sg x i,sg y i])))(hd:∀ σ H,Pv x.length σ H->Q H) :
  iO (yy x y) p g tt te σ0 H0 Q:=by
 refine⟨λi m σ H=>m=x.length - i/\i<=x.length/\Pv i σ H,⟨x.length,by simp,bX _,h0⟩,?_⟩
 rintro i m σ H ⟨rfl,hi,q⟩
 by_cases hlt:i < x.length
 ·refine .inr ⟨⟨hlt,by omega⟩,Pv (i + 1),λσ' H' r=>⟨x.length - (i + 1),by omega,rfl,hlt,r⟩,λv H' r=>?_⟩
  obtain⟨T,rfl,n,rfl⟩:=r
  exact hs i T σ H hlt n q
 ·have e:i=x.length:=by omega
  subst e
  exact .inl ⟨aY _,hd σ H q⟩
theorem NM (Pv:Nat->St->Hp->Prop)(h0:Pv 0 σ0 H0)(hxy:x.length<=y.length)(hxz:x.length<=z.length)(hs:∀ i T σ H,i < x.length->H T=none->Pv i σ H->lD p g tt te (Pv (i + 1)) (.ref T) σ (upd H T (.tup [sg x i,sg y i,sg z i])))
  (hd:∀ σ H,Pv x.length σ H->Q H):iO (yx x y z) p g tt te σ0 H0 Q:=by
 refine⟨λi m σ H=>m=x.length - i/\i<=x.length/\Pv i σ H,⟨x.length,by simp,bX _,h0⟩,?_⟩
 rintro i m σ H ⟨rfl,hi,q⟩
 by_cases hlt:i < x.length
 ·refine .inr ⟨⟨hlt,by omega,by omega⟩,Pv (i + 1),λσ' H' r=>⟨x.length - (i + 1),by omega,rfl,hlt,r⟩,λv H' r=>?_⟩
  obtain⟨T,rfl,n,rfl⟩:=r
  exact hs i T σ H hlt n q
 ·have e:i=x.length:=by omega
  subst e
  exact .inl ⟨aY _,hd σ H q⟩
end
theorem eN {p:Addr}{i:Nat}{te:TE}{N:St->Hp->Prop}{x:V}{σ:St}{H:Hp}(h:te (σ.set i (some x)) H λv H4=>∃ ys,H4 p=some (.lst ys)/\ys.length < sizeLine/\N (σ.set i (some x)) (upd H4 p (.lst (ys ++ [v])))) :
  lD p (cB i) mV te N x σ H:=by
 exact ax (B:=N (σ.set i (some x)) H) h
theorem OW {P:Program}{w:World}{K:PySem.W.Frag}{mg:Str->Option Value}{base:Heap}{CX:gz}{k:Nat}{f:Addr}{fd:FuncData}{ps:List Str}:aG P w K mg base CX k f fd ps (λ_ _ _ _=>False) :=
 ⟨λ_ _ _ _ h=>h.elim,λ_ _ _ _ _ _ _ _ _ _ _ _ _ h=>h.elim⟩
theorem cM.kd {K:PySem.W.Frag}{H:Hp}{v:V}{d:Dt}(h:cM K H v d):kdIs K H v (match d with | .non=>.non | .bl _=>.bl | .int _=>.int | .str _=>.str | .lst _=>.lst | .tup _=>.tup):=by
 cases h with
 | non=>trivial
 | bl=>trivial
 | int=>trivial
 | str=>trivial
 | lst h1 _ _ _=>exact⟨_,h1⟩
 | tup h1 _ _ _=>exact⟨_,h1⟩
theorem yE:∀(a b:List Dt),a.length=b.length->Dt.eqb.eqbs a b=((a.zip b).map λq=>q.1.eqb q.2).all id
 | [],[],_=>rfl
 | x :: r,y :: s,h=>by
  show(x.eqb y && Dt.eqb.eqbs r s)=_
  rw[yE r s (by simpa using h)]
  rfl
theorem yD:∀(a b:List Dt),a.length≠b.length->Dt.eqb.eqbs a b=false
 | [],[],h=>absurd rfl h
 | [],_ :: _,_=>rfl
 | _ :: _,[],_=>rfl
 | x :: r,y :: s,h=>by
  show(x.eqb y && Dt.eqb.eqbs r s)=false
  rw[yD r s (by simpa using h),wa]
theorem cM.isN {K:PySem.W.Frag}{H:Hp}{v:V}{d:Dt}(h:cM K H v d):decide (v=V.non)=d.eqb .non:=by cases h <;> rfl
def Dt.kd:Dt->Kd
 | .non=>.non | .bl _=>.bl | .int _=>.int | .str _=>.str | .lst _=>.lst | .tup _=>.tup
theorem cM.kdIs {K:PySem.W.Frag}{H:Hp}{v:V}{d:Dt}(h:cM K H v d):L2.kdIs K H v d.kd:=by cases d <;> exact h.kd
def tx (n:Nat)(c:Nat->Nat):Str:=⟨((List.range n).map c).toArray⟩
def s1 (c:Nat):V:=.str ⟨#[c]⟩
theorem ce (n:Nat)(c:Nat->Nat):(tx n c).length=n:=by show(((List.range n).map c).toArray).size=_; simp
theorem qE {n i:Nat}{c:Nat->Nat}(h:i < n):cL (tx n c).cps.toList (i:Int)=some (c i):=by
 refine dv ?_
 show(((List.range n).map c).toArray.toList)[i]? = _
 simp[h]
theorem x9 {n i:Nat}{c:Nat->Nat}(h:i < n):sg (tx n c) i=s1 (c i):=by
 unfold sg s1
 have:(tx n c).cps.getD i 0=c i:=by
  show(((List.range n).map c).toArray).getD i 0=_
  simp[wb,h]
 rw[this]
theorem FN (i:Nat)(c:Nat->Nat):tx i c ++ (⟨#[c i]⟩:Str)=tx (i + 1) c:=by
 show(⟨((List.range i).map c).toArray ++ #[c i]⟩:Str)=⟨((List.range (i + 1)).map c).toArray⟩
 simp[mH]
theorem oF {i:Nat}{c:Nat->Nat}{d:Nat}(h:d=c i):tx i c ++ (⟨#[d]⟩:Str)=tx (i + 1) c:=by rw[h]; exact FN i c
theorem mT {n:Nat}{c d:Nat->Nat}(h:∀ i,i < n->c i=d i):tx n c=tx n d:=by
 unfold tx
 rw[wV λi hi=>h i (bK.mp hi)]
theorem lW (a b:Nat):(s1 a=s1 b)=(a=b):=propext ⟨λh=>by
 have h:(⟨#[a]⟩:Str)=⟨#[b]⟩:=by injection h
 have h2 : #[a] = #[b]:=by injection h
 simpa using h2,λh=>by rw[h]⟩
theorem eP (a b:Nat):decide (s1 a=s1 b)=decide (a=b):=nH.mpr (by rw[lW])
theorem zW (n:Nat):oK ("-" : Str) (n:Int)=tx n (λ_=>45):=by
 have f:∀(k:Nat) (b:Array Nat),(List.replicate k (#[45]:Array Nat)).foldl (· ++ ·) b=b ++ (List.replicate k 45).toArray:=by
  intro k
  induction k with
  | zero=>intro b; simp
  | succ k ih =>
   intro b
   rw[List.replicate_succ,List.foldl_cons,ih,List.replicate_succ]
   show b ++ #[45] ++ _=_
   rw[Array.append_assoc]
   congr 1
   show(#[45]:Array Nat) ++ _=_
   rw[show(#[45]:Array Nat)=[45].toArray from rfl,List.append_toArray]
   rfl
 unfold oK
 by_cases h0:(n:Int) < 1
 ·rw[aP h0]
  have:n=0:=by omega
  subst this
  rfl
 ·rw[aN h0]
  by_cases h1:n=1
  ·subst h1; rfl
  ·have e:(((n:Int) == 1) || (("-" : Str).length == 0))=false:=by
    have:((n:Int) == 1)=false:=by simpa using(by omega:¬ (n:Int)=1)
    rw[this]; rfl
   rw[e]
   show(⟨_⟩:Str)=⟨_⟩
   have e2:((List.range n).map λ_=>45)=List.replicate n 45:=by
    rw[List.eq_replicate_iff]
    exact⟨by simp,λb hb=>by obtain⟨_,_,e⟩:=cI.mp hb; exact e.symm⟩
   rw[e2]
   congr 1
   show(List.replicate (n:Int).toNat (#[45]:Array Nat)).foldl (· ++ ·) #[]=_
   rw[f]
   show #[] ++ _=_
   rw[Array.empty_append]
   rfl
theorem Ck:∀(l:List Nat) (b:Array Nat),(l.map λd=>(⟨#[d]⟩:Str)).foldl (λacc p=>acc ++ ("" : Str).cps ++ p.cps) b=b ++ l.toArray
 | [],b=>by simp
 | d :: r,b=>by
  rw[eU,List.foldl_cons,Ck r]
  show b ++ #[] ++ #[d] ++ r.toArray=b ++ (d :: r).toArray
  have z:(#[d]:Array Nat) ++ r.toArray=(d :: r).toArray:=by
   rw[show(#[d]:Array Nat)=[d].toArray from rfl,List.append_toArray]
   rfl
  rw[Array.append_empty,Array.append_assoc,z]
theorem qD (n:Nat)(c:Nat->Nat):Txt.join ("" : Str) ((List.range n).map λi=>(⟨#[c i]⟩:Str))=tx n c:=by
 have e:((List.range n).map λi=>(⟨#[c i]⟩:Str))=((List.range n).map c).map λd=>(⟨#[d]⟩:Str):=by rw[gR]; rfl
 rw[e]
 unfold tx
 generalize (List.range n).map c=l
 show(⟨_⟩:Str)=_
 congr 1
 cases l with
 | nil=>rfl
 | cons d r =>
  show((r.map λd=>(⟨#[d]⟩:Str))).foldl (λacc p=>acc ++ ("" : Str).cps ++ p.cps) #[d]=_
  rw[Ck,show(#[d]:Array Nat)=[d].toArray from rfl,List.append_toArray]
  rfl
theorem rL (n:Nat)(c:Nat->Nat):((((List.range n).map λi=>(⟨#[c i]⟩:Str)).map (·.length)).sum)=n:=by
 rw[gR]
 have:((λx:Str=>x.length) ∘ λi=>(⟨#[c i]⟩:Str))=λ_=>1:=rfl
 rw[this,List.map_const',List.sum_replicate_nat,dk,Nat.mul_one]
section
variable {p T:Addr}{K:PySem.W.Frag}{te:TE}{N:St->Hp->Prop}{x y z:V}{σ:St}{H:Hp}
theorem FS (hT:H T=some (.tup [x,y,z]))(h:te (((σ.set 0 (some x)).set 1 (some y)).set 2 (some z)) H λv H4=>∃ ys,H4 p=some (.lst ys)/\ys.length < sizeLine/\N (((σ.set 0 (some x)).set 1 (some y)).set 2 (some z)) (upd H4 p (.lst (ys ++ [v])))) :
  lD p (eW K 3 (cG (cB 0) (cG (cB 1) (cG (cB 2) eX)))) mV te N (.ref T) σ H :=
 ⟨T,_,rfl,.inl (.inl hT),rfl,_,_,rfl,_,_,rfl,_,_,rfl,rfl,ax (B:=N (((σ.set 0 (some x)).set 1 (some y)).set 2 (some z)) H) h⟩
theorem lI (hT:H T=some (.tup [x,y]))(h:te ((σ.set 0 (some x)).set 1 (some y)) H λv H4=>∃ ys,H4 p=some (.lst ys)/\ys.length < sizeLine/\N ((σ.set 0 (some x)).set 1 (some y)) (upd H4 p (.lst (ys ++ [v])))) :
  lD p (eW K 2 (cG (cB 0) (cG (cB 1) eX))) mV te N (.ref T) σ H :=
 ⟨T,_,rfl,.inl (.inl hT),rfl,_,_,rfl,_,_,rfl,rfl,ax (B:=N ((σ.set 0 (some x)).set 1 (some y)) H) h⟩
end
theorem aB.trans' {H H1 H2:Hp}(a:aB H H1)(b:aB H1 H2):aB H H2:=λc o e=>b c o (a c o e)
theorem bW {H H2:Hp}{p:Addr}{o:HO}(hp:H p=none)(s:aB H H2):aB H (upd H2 p o):=λb u e=>by rw[aj (hU e hp)]; exact s b u e
def rN:Expr->Option Int
 | .Constant (.int i) _ _=>some i
 | _=>none
theorem Lm {e:Expr}{i:Int}(h:rN e=some i):∃ j p,e=.Constant (.int i) j p:=by
 unfold rN at h
 split at h
 ·cases h; exact⟨_,_,rfl⟩
 ·cases h
def rM:List Expr->Option (List Int)
 | []=>some []
 | e :: r=>match rN e with
  | some i=>(rM r).map (i :: ·)
  | none=>none
def Fx (l:List Int):TA:=λ_ H Q=>Q (l.map V.int) H
theorem BH {X:Cx}:∀{es:List Expr}{l:List Int},rM es=some l->PA X es (Fx l)
 | [],l,h=>by cases h; exact aC
 | e :: r,l,h=>by
  have h:(match rN e with | some i=>(rM r).map (i :: ·) | none=>none)=some l:=h
  cases z1:rN e with
  | none=>rw[z1] at h; cases h
  | some i =>
   obtain⟨j,p,rfl⟩:=Lm z1
   rw[z1] at h
   cases z:rM r with
   | none=>rw[z] at h; cases h
   | some l' =>
    rw[z] at h
    cases h
    exact aA (e:=.Constant (.int i) j p) aM (BH z) rfl
section
variable {X:Cx}{pos:Pos}
theorem B6 {X:Cx}{st:Stmt}{t t':TS}(h:PS X st t)(hm:∀ D σ H,t' D σ H->t D σ H):PS X st t':=λpins s σ H D I q=>h pins s σ H D I (hm D σ H q)
end
section
variable {K:PySem.W.Frag}{T p:Addr}{te:TE}{N:St->Hp->Prop}{σ:St}{H:Hp}{x y z u:V}
end
def pX (x:Str):It:=⟨λi _=>i < x.length,λi H v H'=>∃ T,v=.ref T/\H T=none/\H'=upd H T (.tup [.int i,sg x i]),λi _=>x.length<=i⟩
theorem MT {P:Program}{w:World}{A:Around}(hh:A.handled=none)(it:Addr)(x:Str) :
  Draws P w A it [it] x.length (λi v=>∃ u,v=.str ⟨#[x.cps.getD i 0]⟩ u) (λi h=>dI h it x i) where
 live:=λ_ _ st=>let ⟨o,ho,_⟩:=st.obj; ⟨o,ho⟩
 frame:=λ_ _ _ st hk=>st.at λo e=>hk it (by simp) o e
 item:=λi s Q E hi st hQ=>oy st (lM hi) λh' t tk st' sb=>hQ _ h' tk ⟨t,rfl⟩ st' sb
 done:=λs Q E st hE=>xi hh st (tQ (aY _)) hE
section
variable {P:Program}{w:World}{K:PySem.W.Frag}
def OX (e it:Addr)(x:Str)(i:Nat)(h:Heap):Prop:=(∃ old,IsEnum h e it i old)/\dI h it x i
theorem FY {elts:List Expr}{k:Nat}{pos:Pos}(e it:Addr)(hei:e≠it)(x:Str):i5 P w K (.Tuple elts k pos) (pX x) [e,it] e (OX e it x) where
 mem:=by simp
 obj:=λi h st b hb=>by
  obtain⟨⟨old,he⟩,st⟩:=st
  rcases bh.mp hb with rfl | hb
  ·exact⟨_,he,λv q=>by cases q⟩
  ·rw[bH.mp hb]; exact st.obj
 keep:=λi h h' st k=>by
  obtain⟨⟨old,he⟩,st⟩:=st
  exact⟨⟨old,k e (by simp) _ he⟩,st.at λo q=>k it (by simp) o q⟩
 item:=by
  intro X hP hw hK hc i pins s σ H E I hf st hg
  subst hP hw hK
  have W:=WalksT.enumerateD (A:=X.A) (MT (P:=X.prog) (w:=X.w) (A:=X.A.in1) (I.ok.hd hc) it x) e hei (by simpa using hei) (by simp)
  refine W.item i s _ _ hg st λT vals h' tk hv hT hq mid kp=>⟨_,rfl,?_⟩
  refine W.go elts k pos i T { s with heap:=h',toks:=tk } _ _ mid λh'' st' kp'=>?_
  obtain⟨t,y,⟨u,rfl⟩,rfl⟩:=hv
  have nT:T∉[e,it]:=W.apart i T h' mid
  have hq2:h''.IsTuple T #[Value.int (i:Int) t,Value.str ⟨#[x.cps.getD i 0]⟩ u]:=by
   obtain⟨o,h1,r⟩:=hq
   exact⟨o,kp' T o nT h1,r⟩
  have fr:H T=none:=I.hok.fresh hT
  have I1:Inv X pins σ (upd H T (.tup [.int i,sg x i])) { s with heap:=h'',toks:=tk }:=by
   refine I.turnLaid (fp:=[e,it]) hf (λb o hb q=>kp' b o hb (kp b o hb q)) hT nT ?_
   exact⟨by show 2<=sizeLine; rw[fG]; omega,_,.cons ⟨t,rfl⟩ (.cons ⟨u,rfl⟩ .nil),hq2⟩
  refine⟨.ref T,_,I1,rfl,⟨T,rfl,fr,rfl⟩,st',λb hb=>?_⟩
  have nb:b≠T:=λq=>nT (q ▸ hb)
  rw[aj nb]
  exact(hf b hb).1
 done:=by
  intro X hP hw hK hc i pins s σ H E I hf st hg
  subst hP hw hK
  obtain⟨⟨old,he⟩,st⟩:=st
  have hx:x.cps[i]? = none:=tQ hg
  have hT:s.TypeIs (.ref e) "enumerate" := ⟨_,he,rfl⟩
  unfold pyNext
  refine aE (py (pk (name:=Str.ofString "__next__") hT F.slot_enumerate_next
   (lF F.slot_enumerate_next hT F.entry_enumerate_next ?_ (F.args_enumerate_next_1 _))))
  show wpAny _ _ (field (.ref e) 2 >>= _) _ _ _
  refine aE (iM he rfl (x:=.ref it) rfl ?_)
  refine aE (xi (I.ok.hd hc) st hx λh' y he' hx'=>?_)
  obtain⟨o,ho,hcl⟩:=hx'
  refine aE (wpAny_isInstance (T := "StopIteration") (b:=true) ⟨o,ho,hcl⟩ isSubtype_stop ?_)
  exact aa ⟨rfl,I.turnedL (fp:=[e,it]) (t':=s.toks) hf λb o hb q=>he' b o (λz=>hb (by simp[z])) q⟩
 self:=λA i s Q E st h=>by
  obtain⟨⟨old,he⟩,_⟩:=st
  exact wpAny_pyIter_enum he h
end
section
variable {X:Cx}
def Lx (ta:TA):TI:=λσ H R=>ta σ H λvs H1=>∃ x,vs=[.str x]/\R (pX x) H1
theorem og {elts:List Expr}{k:Nat}{tp:Pos}{a:Expr}{ta:TA}{p pos:Pos}(hg:Gl X "enumerate") (hm:X.mg "enumerate" = none) (ha:PA X [a] ta) (hs:starEach [a] X.env=[(false,eval a X.env)]:=by rfl) :
  PI X (.Tuple elts k tp) (.Call (.Name "enumerate" p) [a] [] pos) (Lx ta):=by
 intro pins s σ H R I h
 refine Call_ (jx I hg hm boot_enumerate (pI (aZ (ha pos pins s σ H _ I h) λus s1 ⟨vs,H1,I1,r1,q1⟩=>?_) hs rfl))
 obtain⟨x,rfl,q⟩:=q1
 obtain⟨u,rfl,ru⟩:=r1.one
 obtain⟨t,rfl⟩:=ru
 refine call_enumerate_str λh' he st hz kp=>wpAny_pyIter_enum (s:={ s1 with heap:=h' }) he ?_
 have hst:dI h' s1.heap.objs.size x 0:=⟨_,t,st,by unfold strIterType; split <;> simp⟩
 refine⟨_,[s1.heap.objs.size + 1,s1.heap.objs.size],_,_,H1,rfl,I1.kept (t':=s1.toks) kp,FY _ _ (Nat.succ_ne_self _) x,⟨⟨_,by simpa using he⟩,hst⟩,λb hb=>?_,q⟩
 have hb':s1.heap.objs.size<=b:=by
  simp only[bh,kr,kO] at hb
  rcases hb with rfl | rfl
  ·exact gB _
  ·exact aY _
 exact I1.fpOk hb' (I1.hok.fresh hb')
end
section
variable {g:TG}{tb:TS}{D:jW}{σ:St}{H:Hp}{x:Str}
theorem Cn (Pv:Nat->St->Hp->Prop)(h0:Pv 0 σ H)
  (hs:∀ i T σ H,i < x.length->H T=none->Pv i σ H->g (.ref T) σ (upd H T (.tup [.int i,sg x i])) λσ2 H2=>tb { D with nx:=Pv (i + 1),ct:=Pv (i + 1),bk:=D.nx } σ2 H2) (hd:∀ σ H,Pv x.length σ H->D.nx σ H) :
  ∃ W:Nat->Nat->St->Hp->Prop,(∃ m,W 0 m σ H)/\∀ i m σ H,W i m σ H ->
   ((pX x).stop i H/\D.nx σ H)∨((pX x).go i H/\∃ N:St->Hp->Prop,(∀ σ' H',N σ' H'->∃ m',m' < m/\W (i + 1) m' σ' H')/\∀ v H',(pX x).yld i H v H'->g v σ H' λσ2 H2=>tb { D with nx:=N,ct:=N,bk:=D.nx } σ2 H2):=by
 refine⟨λi m σ H=>m=x.length - i/\i<=x.length/\Pv i σ H,⟨x.length,by simp,bX _,h0⟩,?_⟩
 rintro i m σ H ⟨rfl,hi,p⟩
 by_cases hlt:i < x.length
 ·refine .inr ⟨hlt,Pv (i + 1),λσ' H' p'=>⟨x.length - (i + 1),by omega,rfl,hlt,p'⟩,λv H' y=>?_⟩
  obtain⟨T,rfl,hT,rfl⟩:=y
  exact hs i T σ H hlt hT p
 ·have e:i=x.length:=by omega
  subst e
  exact .inl ⟨aY _,hd σ H p⟩
end
section
variable {p:Addr}{g:TG}{tt:TT}{te:TE}{Q:Hp->Prop}{σ0:St}{H0:Hp}{x:Str}
theorem wF (Pv:Nat->St->Hp->Prop)(h0:Pv 0 σ0 H0)(hs:∀ i T σ H,i < x.length->H T=none->Pv i σ H->lD p g tt te (Pv (i + 1)) (.ref T) σ (upd H T (.tup [.int i,sg x i])))(hd:∀ σ H,Pv x.length σ H->Q H) :
  iO (pX x) p g tt te σ0 H0 Q:=by
 refine⟨λi m σ H=>m=x.length - i/\i<=x.length/\Pv i σ H,⟨x.length,by simp,bX _,h0⟩,?_⟩
 rintro i m σ H ⟨rfl,hi,r⟩
 by_cases hlt:i < x.length
 ·refine .inr ⟨hlt,Pv (i + 1),λσ' H' r=>⟨x.length - (i + 1),by omega,rfl,hlt,r⟩,λv H' y=>?_⟩
  obtain⟨T,rfl,hT,rfl⟩:=y
  exact hs i T σ H hlt hT r
 ·have e:i=x.length:=by omega
  subst e
  exact .inl ⟨aY _,hd σ H r⟩
end
abbrev gM:=St->Hp->(St->Hp->Prop)->Prop
def PB (X:Cx)(act:Sem Unit)(t:gM):Prop :=
 ∀(pins:List (Addr×Obj)) (s:Shared) (σ:St) (H:Hp) (Q:St->Hp->Prop),Inv X pins σ H s->t σ H Q ->
  wpAny (model X.prog X.w) X.A act (λ_ s'=>∃ σ' H',Inv X pins σ' H' s'/\Q σ' H') (λ_ _=>False) s
def lJ (J:It)(g:TG)(tt:TT)(tb:gM)(σ0:St)(H0:Hp)(Q:St->Hp->Prop):Prop :=
 ∃ W:Nat->Nat->St->Hp->Prop,(∃ m,W 0 m σ0 H0)/\∀ i m σ H,W i m σ H ->
  (J.stop i H/\Q σ H)∨(J.go i H/\∃ N:St->Hp->Prop,(∀ σ' H',N σ' H'->∃ m',m' < m/\W (i + 1) m' σ' H')/\∀ x H1,J.yld i H x H1->g x σ H1 λσ2 H2=>tt σ2 H2 λb H3 =>
   if b=true then tb σ2 H3 N else N σ2 H3)
def G5 (te:TE)(p:Addr):gM:=λσ H N=>te σ H λv H4=>∃ ys,H4 p=some (.lst ys)/\ys.length < sizeLine/\N σ (upd H4 p (.lst (ys ++ [v])))
def Fv (wi:TI)(g:TG)(tt:TT)(tb:Addr->gM)(p:Addr):gM:=λσ H N=>wi σ H λJ H1=>lJ J g tt (tb p) σ H1 N
def GD (fm:List (Option Nat))(wi:TI)(g:TG)(tt:TT)(tb:Addr->gM):TE:=λσ H Q=>wi σ H λJ H1=>∀ p,H1 p=none ->
 lJ J g tt (tb p) (seeσ fm σ) (upd H1 p (.lst [])) λ_ H2=>Q (.ref p) H2
def qF (ip:Pos)(tg:Expr)(ifs:List Expr)(act:Sem Unit)(e:Expr)(d:Nat)(it acc:Value)(env:Env):Sem Fin:=do
 standAt ip
 match <- pyNext it with
 | none=>pure (.done .next)
 | some v =>
  letOwnedTupleGo tg it v
  assign tg env v
  let mut ok:=true
  for c in ifs do
   if ok then ok <- isTrue c env (eval c env)
  if ok then
   act
  again (.compLoop e d it acc env)
def yF (elt:Expr)(acc:Value)(env:Env):Sem Unit:=do let _ <- call (.builtin "list.append") [acc,<- eval elt env]
def vV (cl:Comprehension)(e:Expr)(d:Nat)(acc:Value)(env:Env):Sem Unit:=do
 let x <- eval cl.iter env
 standAt cl.iter.pos
 let x <- foldedSetIterable cl.iter env x
 let _ <- runOwn (.compStart e d (<- holding [x] (pyIter x)) acc env) env
def nO (elt:Expr)(gens:List Comprehension)(scope:Scope)(pos:Pos)(d:Nat)(acc:Value)(env:Env):Sem Unit :=
 match gens[d + 1]? with
 | some g=>vV g (.ListComp elt gens scope pos) (d + 1) acc env
 | none=>yF elt acc env
theorem wj {elt:Expr}{gens:List Comprehension}{scope:Scope}{pos:Pos}{d:Nat}{cl:Comprehension}(h1:gens[d]? = some cl)(h2:cl.is_async=0)(h3:∀ g,gens[d + 1]? = some g->g.is_async=0)(it acc:Value)(env:Env) :
  compTurn (.ListComp elt gens scope pos) d it acc env=qF cl.iter.pos cl.target cl.ifs (nO elt gens scope pos d acc env) (.ListComp elt gens scope pos) d it acc env:=by
 unfold compTurn qF nO
 simp only[h1,h2,wE,mN,iw]
 cases e:gens[d + 1]? with
 | none=>rfl
 | some g =>
  have h:=h3 g e
  simp only[h,vV,wE,mN,iw,bind_assoc,pure_bind]
  rfl
section
variable {X:Cx}{elt iter tg:Expr}{gens:List Comprehension}{scope:Scope}{cpos:Pos}{ifs:List Expr}{d:Nat}{ip:Pos}{act:Sem Unit}{g:TG}{tt:TT}{tb:gM}{te:TE}{acc:Value}
theorem CL {R:Result->Shared->Prop}{pins:List (Addr×Obj)}{s1:Shared}{it:Addr}{fp:List Addr}{tn:Nat->Heap->Prop}{J:It}{Q:St->Hp->Prop}{H0:Hp}{σ0:St}
  (hc:X.calm=true) (hx:∀ v s,X.xe v s->False) (hq:∀ it,compTurn (.ListComp elt gens scope cpos) d it acc X.env=qF ip tg ifs act (.ListComp elt gens scope cpos) d it acc X.env) (hg:PG X tg g) (ht:iJ X ifs tt) (hb:PB X act tb)
  (T:i5 X.prog X.w X.K tg J fp it tn) (hfp:∀ b∈fp,dM X pins H0 b) (I:Inv X pins σ0 H0 s1) (st:tn 0 s1.heap) (blk:lJ J g tt tb σ0 H0 Q)
  (hR:∀ σ' H' s',Inv X pins σ' H' s'->Q σ' H'->R (.ok .next) s') :
  codeAny (model X.prog X.w) X.A (.compLoop (.ListComp elt gens scope cpos) d (.ref it) acc X.env) R s1:=by
 obtain⟨W,⟨m0,w0⟩,turn⟩:=blk
 have stat:∀{H':Hp},(∀ b∈fp,H' b=none)->∀ b∈fp,dM X pins H' b:=λhn b hb=>⟨hn b hb,(hfp b hb).2⟩
 refine codeAny_loop rfl (λn s'=>∃ i σ' H',Inv X pins σ' H' s'/\tn i s'.heap/\(∀ b∈fp,H' b=none)/\W i n σ' H') (λn s2 hI=>?_) m0 ⟨0,σ0,H0,I,st,λb hb=>(hfp b hb).1,w0⟩
 obtain⟨i,σ2,H2,I2,st2,fr2,w2⟩:=hI
 show wpAny _ X.A ((compTurn (.ListComp elt gens scope cpos) d (.ref it) acc X.env).onRaise λx=>do noteFrame x X.env; theTreesLotGoes x) _ _ s2
 refine wpAny_noted ?_
 rw[hq]
 unfold qF
 have lift:∀{α:Type} {t:Sem α} {Q1 Q2:α->Shared->Prop} {E2:Value->Shared->Prop} {s':Shared},wpAny (model X.prog X.w) X.A t Q1 (λ_ _=>False) s'->(∀ a s'',Q1 a s''->Q2 a s'')->wpAny (model X.prog X.w) X.A t Q2 E2 s' :=
  λh k=>fY h k λ_ _ z=>z.elim
 have liftX:∀{α:Type} {t:Sem α} {Q1 Q2:α->Shared->Prop} {E2:Value->Shared->Prop} {s':Shared},wpAny (model X.prog X.w) X.A t Q1 X.xe s'->(∀ a s'',Q1 a s''->Q2 a s'')->wpAny (model X.prog X.w) X.A t Q2 E2 s' :=
  λh k=>fY h k λv s z=>(hx v s z).elim
 rcases turn i n σ2 H2 w2 with⟨stop,qn⟩ | ⟨go,N,hN,step⟩
 ·refine aE (jA (aE (lift (T.done X rfl rfl rfl hc i pins s2 σ2 H2 _ I2 (stat fr2) st2 stop) λr s3 q=>?_)))
  obtain⟨hr,I3⟩:=q
  subst hr
  exact aa (hR σ2 H2 s3 I3 qn)
 ·refine aE (jA (aE (lift (T.item X rfl rfl rfl hc i pins s2 σ2 H2 _ I2 (stat fr2) st2 go) λr s3 q=>?_)))
  obtain⟨u,hr,h3⟩:=q
  subst hr
  refine aE (lift h3 λ_ s4 q4=>?_)
  obtain⟨x,H4,I4,r4,y4,st4,fr4⟩:=q4
  have I4':=I4.pinned (stat fr4) (T.obj _ _ st4)
  refine aE (liftX (hg _ s4 σ2 H4 x u _ I4' r4 (step x H4 y4)) λ_ s5 q5=>?_)
  obtain⟨σ5,H5,I5,q5⟩:=q5
  refine aE (liftX (ht _ s5 σ5 H5 _ I5 q5) λb s6 q6=>?_)
  obtain⟨H6,I6,q6⟩:=q6
  have again:∀{σ7:St} {H7:Hp} {s7:Shared} {m':Nat},Inv X (pins ++ kM fp s4.heap) σ7 H7 s7->W (i + 1) m' σ7 H7 ->
    ∃ i σ' H',Inv X pins σ' H' s7/\tn i s7.heap/\(∀ b∈fp,H' b=none)/\W i m' σ' H':=λ{σ7 H7 s7 m'} I7 w7=>by
   refine⟨i + 1,σ7,H7,I7.unpinned,T.keep _ _ _ st4 λb hb o e=>(I7.pin (b,o) (eK _ (eK _ (lv hb e)))).1,λb hb=>?_,w7⟩
   obtain⟨o,e,d⟩:=T.obj _ _ st4 b hb
   exact(I7.pin (b,o) (eK _ (eK _ (lv hb e)))).2.1
  cases b with
  | false =>
   rw[aN dN] at q6
   obtain⟨m',hm,w7⟩:=hN _ _ q6
   exact aa ⟨rfl,m',hm,again I6 w7⟩
  | true =>
   rw[aP rfl] at q6
   refine aE (lift (hb _ s6 σ5 H6 _ I6 q6) λ_ s7 q7=>?_)
   obtain⟨σ7,H7,I7,n7⟩:=q7
   obtain⟨m',hm,w7⟩:=hN _ _ n7
   exact aa ⟨rfl,m',hm,again I7 w7⟩
theorem qy {p:Addr}(hx:∀ v s,X.xe v s->False)(he:PE X elt te):PB X (yF elt (.ref p) X.env) (G5 te p):=by
 intro pins s σ H Q I q
 have liftX:∀{α:Type} {t:Sem α} {Q1 Q2:α->Shared->Prop} {E2:Value->Shared->Prop} {s':Shared},wpAny (model X.prog X.w) X.A t Q1 X.xe s'->(∀ a s'',Q1 a s''->Q2 a s'')->wpAny (model X.prog X.w) X.A t Q2 E2 s' :=
  λh k=>fY h k λv s z=>(hx v s z).elim
 unfold yF
 refine aE (liftX (he _ s σ H _ I q) λu s7 q7=>?_)
 obtain⟨v,H7,I7,r7,ys,hp,hz,n7⟩:=q7
 have ap:=jL (X:=X) pins s7 σ H7 (.ref p) [v] (.ref p) [u] (λ_ H8=>Q σ H8) I7 rfl (.cons r7 .nil) ⟨p,ys,v,rfl,rfl,hp,hz,n7⟩
 refine aE (liftX ap λ_ s8 q8=>?_)
 obtain⟨_,H8,I8,_,w8⟩:=q8
 exact aa ⟨σ,H8,I8,w8⟩
theorem N0 {R:Result->Shared->Prop}{M:Program}{w:World}{A:Around}{s:Shared}{env:Env}{it:Value}{cl:Comprehension}(h1:(clausesOf (.ListComp elt gens scope cpos))[d]? = some cl)(h2:cl.is_async=0)
  (h0:codeAny (model M w) A (.compLoop (.ListComp elt gens scope cpos) d it acc env) R s)
  (h:wpAny (model M w) A (pyIter it) (λit' s'=>codeAny (model M w) A (.compLoop (.ListComp elt gens scope cpos) d it' acc env) R s') (notedBy (model M w) A env λx s'=>R (.error x) s') s) :
  codeAny (model M w) A (.compStart (.ListComp elt gens scope cpos) d it acc env) R s:=by
 refine codeAny_of_tree ?_
 show wpAny _ _ ((compStart (.ListComp elt gens scope cpos) d it acc env).onRaise (λx=>do noteFrame x env; standAt theWindowsPlace)) _ _ s
 refine wpAny_notedAt ?_
 unfold compStart
 rw[h1]
 simp only[Option.elim,h2,wE,mN,iw]
 show wpAny _ _ (ask >>= _) _ _ s
 refine aE (wpAny_askSetting (wpAny_ite ?_))
 split
 ·first
   | exact aE (aa (aa (And.intro rfl h0)))
   | exact aa (And.intro rfl h0)
 ·first
   | exact aE (wpAny_rule (aE (jA (aE (fY h (λit' s' h'=>aa (And.intro rfl h')) λ_ _ x=>x)))))
   | (refine aE (wpAny_rule ?_); show wpAny _ _ (standAt cl.iter.pos >>= _) _ _ s; exact aE (jA (aE (fY h (λit' s' h'=>aa (And.intro rfl h')) λ_ _ x=>x))))
theorem qx {wi:TI}{tbp:Addr->gM}{p:Addr}{cl:Comprehension}(hc:X.calm=true)(hx:∀ v s,X.xe v s->False)(hi:PI X cl.target cl.iter wi)(hg:PG X cl.target g)(ht:iJ X cl.ifs tt)(hb:PB X (nO elt gens scope cpos d (.ref p) X.env) (tbp p))
  (h1:(clausesOf (.ListComp elt gens scope cpos))[d]? = some cl:=by rfl) (h2:cl.is_async=0:=by rfl)
  (h3:∀ g,gens[d + 1]? = some g->g.is_async=0:=by intro g h; first | (cases h; rfl) | cases h)
  (hs:∀ x,foldedSetIterable cl.iter X.env x=pure x:=by intro _; rfl):PB X (vV cl (.ListComp elt gens scope cpos) d (.ref p) X.env) (Fv wi g tt tbp p):=by
 intro pins s σ H Q I q
 have liftX:∀{α:Type} {t:Sem α} {Q1 Q2:α->Shared->Prop} {E2:Value->Shared->Prop} {s':Shared},wpAny (model X.prog X.w) X.A t Q1 X.xe s'->(∀ a s'',Q1 a s''->Q2 a s'')->wpAny (model X.prog X.w) X.A t Q2 E2 s' :=
  λh k=>fY h k λv s z=>(hx v s z).elim
 unfold vV
 refine aE (liftX (hi pins s σ H _ I q) λv s1 h1'=>?_)
 refine aE (jA (aE (wpAny_of_eq (hs v) (aE (pj (liftX h1' λitv s2 h2'=>?_))))))
 obtain⟨it,fp,tn,J,H2,ei,I2,T,st2,f2,blk⟩:=h2'
 subst ei
 have loop:codeAny (model X.prog X.w) X.A (.compLoop (.ListComp elt gens scope cpos) d (.ref it) (.ref p) X.env) (λr s'=>match r with | .ok f=>(∃ σ' H',Inv X pins σ' H' s'/\Q σ' H') | .error ev=>cameBackBy (model X.prog X.w) X.A X.env (λ_ _=>False) ev s') s2 :=
  CL (pins:=pins) hc hx (λit=>wj h1 h2 h3 it _ _) hg ht hb T f2 I2 st2 blk λσ' H' s' I' q'=>⟨σ',H',I',q'⟩
 have fin:=wpAny_runOwn (M:=model X.prog X.w) (A:=X.A) (env:=X.env) (E:=λ_ _=>False) (h:=none) (Q:=λ_ s'=>∃ σ' H',Inv X pins σ' H' s'/\Q σ' H') (N0 h1 h2 loop (T.self _ 0 _ _ _ st2 loop))
 exact aE (fY fin (λ_ _ z=>aa z) λ_ _ z=>z)
end
section
variable {X:Cx}{elt iter tg:Expr}{ifs:List Expr}{cC:List Comprehension}{scope:Scope}{pos:Pos}{N':List Str}{fm:List (Option Nat)}{wi:TI}{g:TG}{tt:TT}{tb:Addr->gM}
theorem DX {RR:Value->Addr->Result->Shared->Prop}{pins:List (Addr×Obj)}{σ:St}{H:Hp}{s:Shared}{it:Addr}{fp:List Addr}{tn:Nat->Heap->Prop}{J:It}{Q:Addr->Hp->Prop}{E:Value->Shared->Prop}
  (hc:X.calm=true) (S:jY X scope N' fm) (hg:∀ s H C fp,PG (cP X scope N' s H C fp) tg g) (ht:∀ s H C fp,iJ (cP X scope N' s H C fp) ifs tt)
  (hb:∀ s H C fp p,PB (cP X scope N' s H C fp) (nO elt (⟨tg,iter,ifs,0⟩ :: cC) scope pos 0 (.ref p) (cP X scope N' s H C fp).env) (tb p))
  (hq:∀ it acc env,compTurn (.ListComp elt (⟨tg,iter,ifs,0⟩ :: cC) scope pos) 0 it acc env=qF iter.pos tg ifs (nO elt (⟨tg,iter,ifs,0⟩ :: cC) scope pos 0 acc env) (.ListComp elt (⟨tg,iter,ifs,0⟩ :: cC) scope pos) 0 it acc env)
  (T:i5 X.prog X.w X.K tg J fp it tn) (I:Inv X pins σ H s) (st:tn 0 s.heap) (hf:∀ b∈fp,dM X pins H b)
  (blk:∀ p,H p=none->lJ J g tt (tb p) (seeσ fm σ) (upd H p (.lst [])) λ_=>Q p)
  (hR:∀ p C H' s' (m:Str->Option Value),s'.heap.Ns C m->(∀ h',Heap.SameBut C s'.heap h'->Inv X pins σ H' { s' with heap:=h' })->dM X pins H' C->Q p H'->Inv X pins σ H' s'->RR (.ref p) C (.ok .next) s') :
  wpAny (model X.prog X.w) X.A (newList []) (λacc s₃=>wpAny (model X.prog X.w) X.A (newFunctionEnv scope X.env.globals (gL scope X.env) [] X.env.qual none .none (some X.env)) (λcenv s₄ =>
   codeAny (model X.prog X.w) X.A (.compStart (.ListComp elt (⟨tg,iter,ifs,0⟩ :: cC) scope pos) 0 (.ref it) acc { cenv with scope:=relabel scope X.env }) (RR acc cenv.locals) s₄) E s₃) E s:=by
 have I1:Inv X pins σ (upd H s.heap.objs.size (.lst [])) { s with heap:=s.heap.push { cls:=.type "list",data:=.seq ([]:List Value).toArray } }:=I.lnew (t':=s.toks) .nil (bX _)
 have hb':=blk _ I.fresh
 refine pi (wpAny_newFunctionEnv S.cell (by intro y hy; simp at hy) (λh1 hn1 hs1=>?_) S.kind)
 dsimp only at hn1 hs1 ⊢
 generalize hq2:s.heap.push { cls:=.type "list",data:=.seq ([]:List Value).toArray }=h2 at hn1 hs1 I1 ⊢
 have sz:h2.objs.size=s.heap.objs.size + 1:=by rw[<- hq2,eL]
 have old:∀ b o,h2.get? b=some o->h1.get? b=some o:=λb o e=>hs1.extBut b o (cQ (bU e)) (bj _ e)
 have old0:∀ b o,s.heap.get? b=some o->h2.get? b=some o:=λb o e=>hq2 ▸ bj _ e
 have lt0:∀ b∈fp,b < s.heap.objs.size:=λb hb=>by
  obtain⟨o,e,_⟩:=T.obj _ _ st b hb
  exact bU e
 have hf1:∀ b∈fp,dM X pins (upd H s.heap.objs.size (.lst [])) b:=λb hb=>by
  obtain⟨f0,f⟩:=hf b hb
  exact⟨by rw[aj (cQ (lt0 b hb))]; exact f0,f⟩
 have lt2:∀ b∈fp,b < h2.objs.size:=λb hb=>by rw[sz]; exact nv (lt0 b hb)
 have J0:=DW (s:={ s with heap:=h2 }) (h':=h1) (tk:=s.toks) (fp:=fp) S I1 hf1 lt2 hn1 old
 have st1:tn 0 h1:=T.keep _ _ _ st λb _ o e=>old b o (old0 b o e)
 have fpok:∀ b∈fp,dM (cP X scope N' { s with heap:=h2 } (upd H s.heap.objs.size (.lst [])) h2.objs.size fp) [] (upd H s.heap.objs.size (.lst [])) b:=λb hb=>by
  refine⟨(hf1 b hb).1,cQ (lt2 b hb),λz=>?_,.inl hb,λx c e z=>?_,λp hp=>absurd (show p∈([]:List (Addr×Obj)) from hp) (by simp)⟩
  ·rcases bh.mp (I.stkSub b z) with q | q
   ·exact(hf b hb).2.1 q
   ·exact(hf b hb).2.2.1 q
  ·exact(hf b hb).2.2.2.2.1 x c (S.look I e).1 z
 have loop:=CL (X:=cP X scope N' { s with heap:=h2 } (upd H s.heap.objs.size (.lst [])) h2.objs.size fp) (R:=RR (.ref s.heap.objs.size) h2.objs.size) (pins:=[]) hc (λ_ _ z=>z) (λit=>hq it _ _) (hg _ _ _ _) (ht _ _ _ _) (hb _ _ _ _ _) T fpok J0 st1 hb' λσ' H' s' Jv qv=>by
  obtain⟨m,hm,_⟩:=Jv.loc
  exact hR _ _ H' s' m hm (λh' sb=>wC (s:={ s with heap:=h2 }) I1 hf1 Jv rfl Jv.bare sb) (I1.fpOk (aY _) Jv.free) qv (wC (s:={ s with heap:=h2 }) I1 hf1 Jv rfl Jv.bare (Heap.SameBut.refl ..))
 exact codeAny_compStart_list loop (T.self _ 0 _ _ _ st1 loop)
theorem vK (hc:X.calm=true)(S:jY X scope N' fm)(hi:PI X tg iter wi)(hg:∀ s H C fp,PG (cP X scope N' s H C fp) tg g)(ht:∀ s H C fp,iJ (cP X scope N' s H C fp) ifs tt)
  (hb:∀ s H C fp p,PB (cP X scope N' s H C fp) (nO elt (⟨tg,iter,ifs,0⟩ :: cC) scope pos 0 (.ref p) (cP X scope N' s H C fp).env) (tb p))
  (h3:∀ g,cC[0]? = some g->g.is_async=0:=by intro g h; first | (cases h; rfl) | cases h)
  (hs:∀ x,foldedSetIterable iter X.env x=pure x:=by intro _; rfl) :
  PE X (.ListComp elt (⟨tg,iter,ifs,0⟩ :: cC) scope pos) (GD fm wi g tt tb):=by
 intro pins s σ H Q I h
 rw[eval_ListComp]
 refine tS (use:=none) rfl hs (rY (S.cells I)) S.kind S.names (aZ (hi pins s σ H _ I h) λv s1 h1=>aZ h1 λitv s2 h2=>?_)
 obtain⟨it,fp,tn,J,H2,e,I2,T,st2,f2,blk⟩:=h2
 subst e
 refine DX (RR:=λacc C=>compPost (model X.prog X.w) X.A X.xe none (EP X pins σ Q) acc C) (Q:=λp H'=>Q (.ref p) H') hc S hg ht hb (λit acc env=>wj (cl:=⟨tg,iter,ifs,0⟩) (gens:=⟨tg,iter,ifs,0⟩ :: cC) (d:=0) rfl rfl (λg h=>h3 g (by simpa using h)) it acc env) T I2 st2 f2 blk ?_
 intro p C H' s' m hm back _ q _
 exact⟨m,hm,λh' sb=>⟨.ref p,H',back h' sb,rfl,q⟩⟩
end
section
variable {K:PySem.W.Frag}{g:TG}{tt:TT}{tb:gM}{σ0:St}{H0:Hp}{Q:St->Hp->Prop}{x:Str}
def tM (g:TG)(tt:TT)(tb:gM)(N:St->Hp->Prop)(x:V)(σ:St)(H:Hp):Prop:=g x σ H λσ2 H2=>tt σ2 H2 λb H3=>if b=true then tb σ2 H3 N else N σ2 H3
theorem vf (Pv:Nat->St->Hp->Prop)(h0:Pv 0 σ0 H0)(hs:∀ i σ H,i < x.length->Pv i σ H->tM g tt tb (Pv (i + 1)) (sg x i) σ H)(hd:∀ σ H,Pv x.length σ H->Q σ H):lJ (tO x) g tt tb σ0 H0 Q:=by
 refine⟨λi m σ H=>m=x.length - i/\i<=x.length/\Pv i σ H,⟨x.length,by simp,bX _,h0⟩,?_⟩
 rintro i m σ H ⟨rfl,hi,r⟩
 by_cases hlt:i < x.length
 ·refine .inr ⟨hlt,Pv (i + 1),λσ' H' r=>⟨x.length - (i + 1),by omega,rfl,hlt,r⟩,λv H' y=>?_⟩
  obtain⟨rfl,rfl⟩:=y
  exact hs i σ _ hlt r
 ·have e:i=x.length:=by omega
  subst e
  exact .inl ⟨aY _,hd σ H r⟩
theorem vg {a:Addr}{xs:List V}(Pv:Nat->St->Hp->Prop)(h0:Pv 0 σ0 H0)(hl:∀ i σ H,i<=xs.length->Pv i σ H->aD K H a xs)(hs:∀ i x σ H,xs[i]? = some x->Pv i σ H->tM g tt tb (Pv (i + 1)) x σ H)(hd:∀ σ H,Pv xs.length σ H->Q σ H) :
  lJ (mM K a) g tt tb σ0 H0 Q:=by
 refine⟨λi m σ H=>m=xs.length - i/\i<=xs.length/\Pv i σ H,⟨xs.length,by simp,bX _,h0⟩,?_⟩
 rintro i m σ H ⟨rfl,hi,r⟩
 have q:=hl i σ H hi r
 by_cases hlt:i < xs.length
 ·refine .inr ⟨⟨xs,xs[i],q,by simp[hlt]⟩,Pv (i + 1),λσ' H' p'=>⟨xs.length - (i + 1),by omega,rfl,hlt,p'⟩,λx H' y=>?_⟩
  obtain⟨e,y⟩:=y
  subst e
  exact hs i x σ _ (y xs q) r
 ·have e:i=xs.length:=by omega
  subst e
  exact .inl ⟨⟨xs,q,aY _⟩,hd σ H r⟩
end
theorem xO (ns:List Int):∀ n,n<=ns.length->preSum (λi=>ns.getD i 0) n=(ns.take n).sum
 | 0,_=>by simp[preSum]
 | n + 1,h=>by
  have ih:=xO ns n (by omega)
  show preSum (λi=>ns.getD i 0) n + ns.getD n 0=_
  rw[ih,dA,List.sum_append,bZ (by omega)]
  simp[ib,bZ (show n < ns.length by omega)]
theorem LS {κ:Type}{k:κ}{u:Value}:∀{kvs:List (κ×V)}{vs:List (κ×Value)},KV kvs vs->∀(ns:List Int) (i:Nat),kvs.map (·.2)=ns.map V.int->vs[i]? = some (k,u)->∃ t,u=.int (ns.getD i 0) t:=by
 intro kvs vs r
 unfold KV at r
 induction r with
 | nil=>intro _ _ _ h; simp at h
 | @cons p q ps qs h t ih =>
  intro ns i e hi
  cases ns with
  | nil=>simp at e
  | cons n ns =>
   rw[eU,eU] at e
   injection e with e1 e2
   cases i with
   | zero =>
    simp at hi
    subst hi
    have r2:=h.2
    rw[e1] at r2
    obtain⟨t,z⟩:=r2
    exact⟨t,z⟩
   | succ i =>
    have hi':qs[i]? = some (k,u):=by simpa using hi
    exact ih ns i e2 hi'
section
variable {X:Cx}{o:Expr}{td:TE}{p apos cpos pos:Pos}
def Fl (td:TE):TE:=λσ H Q=>td σ H λx H1=>ig λ(a:Addr) (kvs:List (aQ×V)) (ns:List Int)=>x=.ref a/\H1 a=some (.dK kvs)/\kvs.map (·.2)=ns.map V.int/\Q (.int ns.sum) H1
theorem JK (hc:X.calm=true) (hg:Gl X "sum") (hm:X.mg "sum" = none) (ho:PE X o td) (hbase:attributeBase o "values" X.env (eval o X.env)=eval o X.env:=by rfl) (hline:(apos.endLine == cpos.line)=true:=by rfl)
  (he:starEach [.Call (.Attribute o "values" apos) [] [] cpos] X.env=[(false,eval (.Call (.Attribute o "values" apos) [] [] cpos) X.env)]:=by rfl) :
  PE X (.Call (.Name "sum" p) [.Call (.Attribute o "values" apos) [] [] cpos] [] pos) (Fl td):=by
 intro pins s σ H Q I h
 refine tT (jx I hg hm boot_sum ?_ (by decide) (by decide))
 refine PyProof.Rows.callWith_builtin1 ?_ he rfl
 rw[he]
 show wpAny _ _ (spliced ((false,eval (.Call (.Attribute o "values" apos) [] [] cpos) X.env) :: [])) _ _ s
 refine Calls.spliced_cons (wpAny_Call_method0_late hbase hline (aZ (ho pins s σ H _ I h) λv s1 ⟨x,H1,I1,r1,a,kvs,ns,ex,ea,ek,q1⟩=>?_))
 subst ex
 obtain rfl:v=Value.ref a:=r1
 obtain⟨z,hd,vs,rel,dd⟩:=rW I1.hok ea
 have nd:∀ b,Value.ref a=.ref b->∃ ob,s1.heap.get? b=some ob/\ob.dict=none:=λb q=>by
  cases q
  obtain⟨ob,_,_,h1,h2,_⟩:=dd
  exact⟨ob,h1,h2.2.1⟩
 refine⟨"dict", "dict.values",PySem.F.plainAttrs_dict,PySem.F.slot_dict_values,PySem.F.type_dict_values,dd.typeIs,nd,Calls.callWith_builtin rfl (PySem.evalArgs_none ?_)⟩
 refine call_meetsIn PySem.F.slot_dict_values dd.typeIs PySem.F.entry_dict_values (PySem.F.args_dict_values_1 _) (meets_dict_values (dg X.prog X.w) a hd) ⟨⟨vs,dd⟩,?_⟩
 refine Calls.spliced_nil ?_
 obtain⟨ep,da⟩:=dd.dictAt
 have hv:(s1.heap.push { cls:=.type "dict_values",data:=.fields #[.ref a] }).IsValuesView s1.heap.objs.size a:=⟨_,fD _ rfl,rfl,rfl⟩
 have KS:=PySem.W.kdl_values (prog:=X.prog) (w:=X.w) (knd:=dg X.prog X.w) (r:=s1.heap.objs.size) (d:=a) (kvs:=vs) (ep:=ep)
 refine call_sum_walkAnyS ?_
 obtain⟨oI,St,hit,W,st⟩:=KS.iter X.A.in1 { s1 with heap:=s1.heap.push { cls:=.type "dict_values",data:=.fields #[.ref a] } } (I1.ok.hd hc) ⟨hv,da.push _⟩
 refine hit _ _ ⟨_,_,_,_,vs.length,_,_,λi=>ns.getD i 0,rfl,W.toS,st,λb hb=>?_,λi u hu=>?_,λs' t' hmv=>?_⟩
 ·show b < ((s1.heap.push { cls:=.type "dict_values",data:=.fields #[.ref a] }).push oI).objs.size
  rw[eL,eL]
  rcases bh.mp hb with e | hb
  ·rw[e,eL]; exact nu _
  ·rw[bH.mp hb]; exact nv (nv da.lt_size)
 ·obtain⟨k,hk⟩:=hu
  exact LS rel ns i ek hk
 ·have e:preSum (λi=>ns.getD i 0) vs.length=ns.sum:=by
   have l:vs.length=ns.length:=by
    rw[<- rel.length]
    have:=iY List.length ek
    rwa [aI,aI] at this
   rw[l,xO ns _ (aY _),cW]
  have kp:∀ b o,s1.heap.get? b=some o->s'.heap.get? b=some o:=λb o e =>
   hmv.heap b o (λhI=>by
    rw[bH] at hI
    have lt:=bU e
    rw[hI,eL] at lt
    exact ia _ (wT lt (nu _))) (bj _ (bj _ e))
  rw[Moved.eq_with hmv]
  refine⟨.int ns.sum,H1,I1.kept (t':=s'.toks) kp,⟨t',by rw[e]⟩,q1⟩
end
open PySem PySem.W
def ch (x:Str)(i:Nat):Nat:=x.cps.getD i 0
structure Row (n:Nat) (x:Str):Prop where
 len:x.length=n
 bin:∀ i,i < n->ch x i=121∨ch x i=110
theorem iz {n:Nat}{x:Str}(h:Row n x){i:Nat}(hi:i < n):cL x.cps.toList (i:Int)=some (ch x i):=by
 refine dv ?_
 have hs:i < x.cps.size:=Nat.lt_of_lt_of_eq hi h.len.symm
 show x.cps.toList[i]? = some (x.cps.getD i 0)
 simp[wb,hs]
theorem FO {n:Nat}{c:Nat->Nat}(h:∀ i,c i=121∨c i=110):Row n (tx n c):=by
 have e:∀ i,i < n->ch (tx n c) i=c i:=λi hi=>by
  have:=qE (c:=c) hi
  unfold ch tx
  simp[wb,hi]
 exact⟨ce n c,λi hi=>by rw[e i hi]; exact h i⟩
def fK (p:Str×Int):aQ×V:=(.inr p.1,.int p.2)
theorem rO {a b:Str}:((Sum.inr a:aQ)=.inr b)↔a=b:=⟨λh=>by injection h,λh=>by rw[h]⟩
theorem EL (x:Str):∀ c:List (Str×Int),((c.map fK).any λkv=>decide (kv.1=(Sum.inr x:aQ)))=kprHas c x
 | []=>rfl
 | p :: r=>by
  rw[eU,o5,EL x r,kpr_has_cons]
  congr 1
  exact nH.mpr rO
theorem tV (x:Str):∀ c:List (Str×Int),b9 (c.map fK) (.inr x)=if kprHas c x=true then some (.int (kprLook c x 0)) else none
 | []=>rfl
 | p :: r=>by
  rw[eU]
  by_cases e:p.1=x
  ·rw[ik (p:=fK p) (rO.mpr e),kpr_has_cons,bR e,Bool.true_or,aP rfl,kpr_look_cons,aP e]
   rfl
  ·rw[im (p:=fK p) (λz=>e (rO.mp z)),tV x r,kpr_has_cons,cy e,Bool.false_or,kpr_look_cons,aN e]
theorem vE (c:List (Str×Int))(x:Str)(v:Int):dC (c.map fK) (.inr x) (.int v)=(kprPut c x v).map fK:=by
 unfold dC
 rw[EL]
 by_cases h:kprHas c x=true
 ·rw[aP h,kpr_put_old h,gR,gR]
  refine wV λp _=>?_
  show(if (Sum.inr p.1:aQ)=.inr x then ((Sum.inr p.1:aQ),V.int v) else fK p)=fK (kprSet x v p)
  by_cases e:p.1=x
  ·rw[aP (rO.mpr e),kprSet_yes e]; rfl
  ·rw[aN (λz=>e (rO.mp z)),kprSet_no e]
 ·rw[aN h,kpr_put_new (by simpa using h),bQ]
  rfl
theorem DF (x:Str):∀ c:List (Str×Int),nG (c.map fK) (.inr x)=(kprDel c x).map fK
 | []=>rfl
 | p :: r=>by
  have ih:=DF x r
  unfold nG at ih ⊢
  rw[eU,List.filter_cons,kpr_del_cons]
  by_cases e:p.1=x
  ·rw[aN (by simp[fK,e]),aP e]; exact ih
  ·rw[aP (by simp[fK,e]),aN e,eU,ih]
theorem zo (k:Str):∀{c:List (Str×Int)},(c.map (·.1)).Nodup->kprSum (kprDel c k)=kprSum c - kprLook c k 0
 | [],_=>rfl
 | p :: r,h=>by
  rw[eU,List.nodup_cons] at h
  have ih:=zo k h.2
  rw[kpr_del_cons,kpr_look_cons,kpr_sum_cons]
  by_cases e:p.1=k
  ·rw[aP e,aP e]
   have hn:kprHas r k=false:=kpr_has_false.mpr (by rw[<- e]; exact h.1)
   rw[kpr_del_none hn]
   omega
  ·rw[aN e,aN e,kpr_sum_cons,ih]
   omega
structure Kept (rs:List Str) (c:List (Str×Int)):Prop where
 nd:(c.map (·.1)).Nodup
 look:∀ x,kprLook c x 0=(rs.count x:Nat)
 pos:∀ p∈c,0 < p.2
 sum:kprSum c=(rs.length:Nat)
theorem Kept.nil:Kept [] []:=⟨List.nodup_nil,λ_=>rfl,λ_ h=>(by cases h),rfl⟩
theorem CO:∀{c:List (Str×Int)}{x:Str},kprHas c x=true->∃ p∈c,p.1=x/\kprLook c x 0=p.2
 | [],_,h=>by cases h
 | p :: r,x,h=>by
  rw[kpr_look_cons]
  by_cases e:p.1=x
  ·exact⟨p,eJ,e,aP e⟩
  ·rw[kpr_has_cons,cy e,Bool.false_or] at h
   obtain⟨q,hq,e1,e2⟩:=CO h
   exact⟨q,dy _ hq,e1,by rw[aN e]; exact e2⟩
theorem Kept.has {rs:List Str}{c:List (Str×Int)}(h:Kept rs c)(x:Str):kprHas c x=true↔x∈rs:=by
 have l:=h.look x
 constructor
 ·intro y
  obtain⟨p,hp,_,e2⟩:=CO y
  have:=h.pos p hp
  exact List.count_pos_iff.mp (by omega)
 ·intro y
  cases z:kprHas c x with
  | true=>rfl
  | false =>
   rw[kpr_look_none z 0] at l
   have:=List.count_pos_iff.mpr y
   omega
theorem B4 {c:List (Str×Int)}{x:Str}{v:Int}(h:∀ p∈c,0 < p.2)(hv:0 < v):∀ p∈kprPut c x v,0 < p.2:=by
 intro p hp
 cases z:kprHas c x with
 | true =>
  rw[kpr_put_old z] at hp
  obtain⟨q,hq,rfl⟩:=cI.mp hp
  by_cases e:q.1=x
  ·rw[kprSet_yes e]; exact hv
  ·rw[kprSet_no e]; exact h q hq
 | false =>
  rw[kpr_put_new z] at hp
  rcases gQ.mp hp with hp | hp
  ·exact h p hp
  ·rw[bH.mp hp]; exact hv
theorem Kept.add {rs:List Str}{c:List (Str×Int)}(h:Kept rs c)(x:Str):Kept (x :: rs) (kprPut c x (kprLook c x 0 + 1)):=by
 have l:=h.look x
 refine⟨kpr_nodup h.nd _ _,λy=>?_,B4 h.pos (by omega),?_⟩
 ·rw[kpr_look_put,List.count_cons]
  by_cases e:y=x
  ·subst e
   rw[aP rfl,l]
   simp
  ·rw[aN e,h.look y]
   have:(x == y)=false:=by simpa using λz=>e z.symm
   simp[this]
 ·rw[kpr_sum_put h.nd,h.sum,dm]
  omega
theorem Kept.perm {rs rs':List Str}{c:List (Str×Int)}(h:Kept rs c)(p:rs.Perm rs'):Kept rs' c :=
 ⟨h.nd,λx=>by rw[h.look x,p.count_eq],h.pos,by rw[h.sum,p.length_eq]⟩
theorem Kept.less {rs:List Str}{c:List (Str×Int)}{x:Str}(h:Kept (x :: rs) c)(ne:¬ kprLook c x 0 - 1=0):Kept rs (kprPut c x (kprLook c x 0 - 1)):=by
 have l:=h.look x
 rw[List.count_cons_self] at l
 refine⟨kpr_nodup h.nd _ _,λy=>?_,B4 h.pos (by omega),?_⟩
 ·rw[kpr_look_put]
  by_cases e:y=x
  ·subst e
   rw[aP rfl,l]
   omega
  ·rw[aN e,h.look y,List.count_cons]
   have:(x == y)=false:=by simpa using λz=>e z.symm
   simp[this]
 ·have:=h.sum
  rw[dm] at this
  rw[kpr_sum_put h.nd,this]
  omega
theorem Kept.gone {rs:List Str}{c:List (Str×Int)}{x:Str}(h:Kept (x :: rs) c)(ne:kprLook c x 0 - 1=0):Kept rs (kprDel (kprPut c x (kprLook c x 0 - 1)) x):=by
 have l:=h.look x
 rw[List.count_cons_self] at l
 have nd:=kpr_nodup h.nd x (kprLook c x 0 - 1)
 refine⟨kpr_del_nodup nd _,λy=>?_,λp hp=>?_,?_⟩
 ·rw[kpr_del_look,kpr_look_put]
  by_cases e:y=x
  ·subst e
   rw[aP rfl]
   omega
  ·rw[aN e,aN e,h.look y,List.count_cons]
   have:(x == y)=false:=by simpa using λz=>e z.symm
   simp[this]
 ·unfold kprDel at hp
  obtain⟨hp,e⟩:=cY.mp hp
  have e:¬ p.1=x:=by simpa using e
  cases z:kprHas c x with
  | true =>
   rw[kpr_put_old z] at hp
   obtain⟨q,hq,rfl⟩:=cI.mp hp
   rw[kprSet_key] at e
   rw[kprSet_no e]
   exact h.pos q hq
  | false =>
   rw[kpr_put_new z] at hp
   rcases gQ.mp hp with hp | hp
   ·exact h.pos p hp
   ·rw[bH.mp hp] at e; exact absurd rfl e
 ·have:=h.sum
  rw[dm] at this
  rw[zo x nd,kpr_look_put,aP rfl,kpr_sum_put h.nd,this]
  omega
theorem MI (c:List (Str×Int)):(c.map fK).map (·.2)=(c.map (·.2)).map V.int:=by rw[gR,gR]; rfl
def aT (rs:List Str)(q a r b:Nat):Nat:=rs.countP λx=>decide (ch x q=a/\ch x r=b)
def bk (q a r b:Nat):List aQ:=[.inl q,.inr ⟨#[a]⟩,.inl r,.inr ⟨#[b]⟩]
theorem EA {q a r b q' a' r' b':Nat}:bk q a r b=bk q' a' r' b'↔q=q'/\a=a'/\r=r'/\b=b':=by
 constructor
 ·intro h
  injection h with h1 h
  injection h with h2 h
  injection h with h3 h
  injection h with h4 h
  injection h1 with h1
  injection h2 with h2
  injection h3 with h3
  injection h4 with h4
  have e2:a=a':=by injection h2 with h2; simpa using h2
  have e4:b=b':=by injection h4 with h4; simpa using h4
  exact⟨by omega,e2,by omega,e4⟩
 ·rintro⟨rfl,rfl,rfl,rfl⟩
  rfl
def dB (n:Nat)(f:Nat->Nat->Nat->Nat->Int)(bvs:List (List aQ×V)):Prop:=∀ q a r b,q < n->r < n->(b9 bvs (bk q a r b)).getD (.int 0)=.int (f q a r b)
theorem dB.nil {n:Nat}:dB n (λ_ _ _ _=>0) []:=λ_ _ _ _ _ _=>rfl
theorem dB.congr {n:Nat}{f g:Nat->Nat->Nat->Nat->Int}{bvs:List (List aQ×V)}(h:dB n f bvs)(e:∀ q a r b,q < n->r < n->f q a r b=g q a r b):dB n g bvs:=λq a r b hq hr=>by rw[h q a r b hq hr,e q a r b hq hr]
def gG (f:Nat->Nat->Nat->Nat->Int)(x:Str)(by':Int)(i j:Nat)(q a r b:Nat):Int:=f q a r b + if (q < i∨(q=i/\r < j))/\ch x q=a/\ch x r=b then by' else 0
theorem dB.step {n:Nat}{f:Nat->Nat->Nat->Nat->Int}{x:Str}{d:Int}{i j:Nat}{bvs:List (List aQ×V)}(h:dB n (gG f x d i j) bvs)(hi:i < n)(hj:j < n) :
  ∃ v:Int,(b9 bvs (bk i (ch x i) j (ch x j))).getD (.int 0)=.int v/\dB n (gG f x d i (j + 1)) (dC bvs (bk i (ch x i) j (ch x j)) (.int (v + d))):=by
 refine⟨_,h i (ch x i) j (ch x j) hi hj,λq a r b hq hr=>?_⟩
 rw[zU]
 by_cases e:bk q a r b=bk i (ch x i) j (ch x j)
 ·rw[aP e]
  obtain⟨rfl,rfl,rfl,rfl⟩:=EA.mp e
  show V.int _=_
  congr 1
  unfold gG
  rw[aN (by omega),aP ⟨.inr ⟨rfl,by omega⟩,rfl,rfl⟩]
  omega
 ·rw[aN e,h q a r b hq hr]
  congr 1
  unfold gG
  congr 1
  have:((q < i∨q=i/\r < j)/\ch x q=a/\ch x r=b)↔((q < i∨q=i/\r < j + 1)/\ch x q=a/\ch x r=b):=by
   constructor
   ·rintro⟨z,e1,e2⟩
    exact⟨by omega,e1,e2⟩
   ·rintro⟨z,e1,e2⟩
    refine⟨?_,e1,e2⟩
    rcases z with z | ⟨z1,z2⟩
    ·exact .inl z
    ·by_cases e3:r=j
     ·exfalso
      subst z1 e3
      exact e (EA.mpr ⟨rfl,e1.symm,rfl,e2.symm⟩)
     ·exact .inr ⟨z1,by omega⟩
  by_cases p:(q < i∨q=i/\r < j)/\ch x q=a/\ch x r=b
  ·rw[aP p,aP (this.mp p)]
  ·rw[aN p,aN (λz=>p (this.mpr z))]
theorem dB.turn {n:Nat}{f:Nat->Nat->Nat->Nat->Int}{x:Str}{d:Int}{i:Nat}{bvs:List (List aQ×V)}(h:dB n (gG f x d i n) bvs):dB n (gG f x d (i + 1) 0) bvs :=
 h.congr λq a r b hq hr=>by
  unfold gG
  congr 1
  by_cases p:(q < i∨q=i/\r < n)/\ch x q=a/\ch x r=b
  ·rw[aP p,aP ⟨by omega,p.2⟩]
  ·rw[aN p,aN (λz=>p ⟨by omega,z.2⟩)]
theorem dB.start {n:Nat}{f:Nat->Nat->Nat->Nat->Int}{x:Str}{d:Int}{bvs:List (List aQ×V)}(h:dB n f bvs):dB n (gG f x d 0 0) bvs :=
 h.congr λq a r b hq hr=>by unfold gG; rw[aN (by omega)]; omega
def iy (rs:List Str)(q a r b:Nat):Int:=(aT rs q a r b:Nat)
theorem Dz (x:Str)(rs:List Str)(q a r b:Nat):aT (x :: rs) q a r b=aT rs q a r b + if ch x q=a/\ch x r=b then 1 else 0:=by
 unfold aT
 rw[tL]
 by_cases h:ch x q=a/\ch x r=b <;> simp[h]
theorem dB.add {n:Nat}{rs:List Str}{x:Str}{bvs:List (List aQ×V)}(h:dB n (gG (iy rs) x 1 n 0) bvs):dB n (iy (x :: rs)) bvs :=
 h.congr λq a r b hq hr=>by
  unfold gG iy
  rw[Dz]
  by_cases p:ch x q=a/\ch x r=b
  ·rw[aP ⟨.inl hq,p⟩,aP p]; omega
  ·rw[aN (λz=>p z.2),aN p]; omega
theorem dB.take {n:Nat}{rs:List Str}{x:Str}{bvs:List (List aQ×V)}(h:dB n (gG (iy (x :: rs)) x (-1) n 0) bvs):dB n (iy rs) bvs :=
 h.congr λq a r b hq hr=>by
  unfold gG iy
  rw[Dz]
  by_cases p:ch x q=a/\ch x r=b
  ·rw[aP p,aP ⟨.inl hq,p⟩]; omega
  ·rw[aN p,aN (λz=>p z.2)]; omega
theorem dB.perm {n:Nat}{rs rs':List Str}{bvs:List (List aQ×V)}(h:dB n (iy rs) bvs)(p:rs.Perm rs'):dB n (iy rs') bvs :=
 h.congr λq a r b _ _=>by unfold iy aT; rw[p.countP_eq]
section
variable {X:Cx}
def B0 (K:PySem.W.Frag):R2:=λx y H Q=>∃ a b xs,x=.ref a/\y=.ref b/\aD K H a xs/\aD K H b []/\Q (.bl (!xs.isEmpty)) H
theorem vQ (hu:X.A.units < cLine):d9 X (compareOp .NotEq) (B0 X.K):=by
 intro pins s σ H x y v u Q I rx ry h
 obtain⟨a,b,xs,rfl,rfl,ha,hb,q⟩:=h
 cases rx
 cases ry
 obtain⟨its,r1,p1,_⟩:=I.list ha
 obtain⟨its2,r2,p2,_⟩:=I.list hb
 cases r2
 cases r1 with
 | nil=>exact yi (SeqAt.RcNeAt.lists (e:=λ_=>true) p1.isList p2.isList rfl hu (λj h1 _=>absurd h1 (by simp))) ⟨.bl false,H,I,rfl,q⟩
 | cons r t=>exact yi (SeqAt.RcNeAt.lists_lengths p1.isList p2.isList (by simp) hu) ⟨.bl true,H,I,rfl,q⟩
end
def cH (H:Hp)(rs:List Addr)(ks:List (List aQ)):Prop:=rs.length=ks.length/\∀(i:Nat) (r:Addr) (k:List aQ),rs[i]? = some r->ks[i]? = some k->H r=some (.tup (k.map kV))
theorem cH.nil {H:Hp}:cH H [] []:=⟨rfl,λ_ _ _ h=>by cases h⟩
theorem cH.mono {H H':Hp}{rs:List Addr}{ks:List (List aQ)}(h:cH H rs ks)(s:aB H H'):cH H' rs ks:=⟨h.1,λi r k a b=>s _ _ (h.2 i r k a b)⟩
theorem cH.upd {H:Hp}{rs:List Addr}{ks:List (List aQ)}{p:Addr}{ys zs:List V}(h:cH H rs ks)(hp:H p=some (.lst ys)):cH (upd H p (.lst zs)) rs ks:=⟨h.1,λi r k a b=>by
 have e:=h.2 i r k a b
 rw[aj]
 ·exact e
 ·intro z
  rw[z,hp] at e
  cases e⟩
theorem cH.append {H:Hp}{rs rs':List Addr}{ks ks':List (List aQ)}(h:cH H rs ks)(h':cH H rs' ks'):cH H (rs ++ rs') (ks ++ ks'):=by
 refine⟨by rw[cR,cR,h.1,h'.1],λi r k hr hk=>?_⟩
 by_cases hi:i < rs.length
 ·rw[ky hi] at hr
  rw[ky (by rw[<- h.1]; exact hi)] at hk
  exact h.2 i r k hr hk
 ·rw[ku (by omega)] at hr
  rw[ku (by rw[<- h.1]; omega),<- h.1] at hk
  exact h'.2 _ r k hr hk
theorem cH.one {H:Hp}{T:Addr}{k:List aQ}(h:H T=some (.tup (k.map kV))):cH H [T] [k]:=by
 refine⟨rfl,λi r k' hr hk=>?_⟩
 cases i with
 | zero=>cases hr; cases hk; exact h
 | succ i=>cases hr
theorem cH.snoc {H:Hp}{rs:List Addr}{ks:List (List aQ)}{T:Addr}{k:List aQ}(h:cH H rs ks)(hT:H T=some (.tup (k.map kV))):cH H (rs ++ [T]) (ks ++ [k]):=h.append (.one hT)
def iF:aQ->Dt
 | .inl i=>.int i
 | .inr x=>.str x
def cn (k:List aQ):Dt:=.tup (k.map iF)
theorem Mc {K:PySem.W.Frag}{H:Hp}:∀ k:aQ,cM K H (kV k) (iF k)
 | .inl _=>.int _
 | .inr _=>.str _
theorem yH {K:PySem.W.Frag}{H:Hp}{T:Addr}{k:List aQ}(h:H T=some (.tup (k.map kV)))(hl:k.length<=5000):cM K H (.ref T) (cn k):=by
 refine .tup (bT.of h) (by rw[aI,aI]) (by rw[aI]; exact hl) λi u d hu hd=>?_
 rw[ar] at hu hd
 cases z:k[i]? with
 | none=>rw[z] at hu; cases hu
 | some y=>rw[z] at hu hd; cases hu; cases hd; exact Mc y
theorem DI {K:PySem.W.Frag}{H:Hp}{p:Addr}{rs:List Addr}{ks:List (List aQ)}(h:aD K H p (rs.map V.ref))(ht:cH H rs ks)(hl:ks.length<=5000)(hk:∀ k∈ks,k.length<=5000):cM K H (.ref p) (.lst (ks.map cn)):=by
 refine .lst h (by rw[aI,aI]; exact ht.1) (by rw[aI]; exact hl) λi u d hu hd=>?_
 rw[ar] at hu hd
 cases z:rs[i]? with
 | none=>rw[z] at hu; cases hu
 | some r =>
  cases y:ks[i]? with
  | none=>rw[y] at hd; cases hd
  | some k =>
   rw[z] at hu
   rw[y] at hd
   cases hu
   cases hd
   exact yH (ht.2 i r k z y) (hk k (bI y))
theorem MN:∀ k:aQ,(iF k).eqb (iF k)=true
 | .inl i=>by show(i == i)=true; exact iH i
 | .inr x=>by show decide (x=x)=true; exact bR rfl
theorem Cz:∀ k:List aQ,Dt.eqb.eqbs (k.map iF) (k.map iF)=true
 | []=>rfl
 | y :: r=>by
  show((iF y).eqb (iF y) && Dt.eqb.eqbs (r.map iF) (r.map iF))=true
  rw[MN,Cz r]
  rfl
theorem Cv:∀ ks:List (List aQ),Dt.eqb.eqbs (ks.map cn) (ks.map cn)=true
 | []=>rfl
 | k :: r=>by
  show((cn k).eqb (cn k) && Dt.eqb.eqbs (r.map cn) (r.map cn))=true
  rw[Cv r,mO]
  exact Cz k
theorem yJ:∀ k:List aQ,Dt.deep.deeps (k.map iF)=0
 | []=>rfl
 | .inl _ :: r=>by show max 0 (Dt.deep.deeps (r.map iF))=0; rw[yJ r]; rfl
 | .inr _ :: r=>by show max 0 (Dt.deep.deeps (r.map iF))=0; rw[yJ r]; rfl
theorem yI:∀ ks:List (List aQ),Dt.deep.deeps (ks.map cn)<=1
 | []=>bX _
 | k :: r=>by
  show max (cn k).deep (Dt.deep.deeps (r.map cn))<=1
  refine Nat.max_le.mpr ⟨?_,yI r⟩
  show 1 + Dt.deep.deeps (k.map iF)<=1
  rw[yJ]
  exact aY 1
open PySem
theorem n8 {i:Nat}{tb:gM}{N:St->Hp->Prop}{x:V}{σ:St}{H:Hp}(h:tb (σ.set i (some x)) H N):tM (cB i) mV tb N x σ H:=ax (B:=N (σ.set i (some x)) H) h
theorem xt {K:PySem.W.Frag}{i j:Nat}{tb:gM}{N:St->Hp->Prop}{x y:V}{T:Addr}{σ:St}{H:Hp}(hT:bT K H T [x,y])(h:tb ((σ.set i (some x)).set j (some y)) H N):tM (eW K 2 (cG (cB i) (cG (cB j) eX))) mV tb N (.ref T) σ H :=
 ⟨T,_,rfl,hT,rfl,_,_,rfl,_,_,rfl,rfl,ax (B:=N ((σ.set i (some x)).set j (some y)) H) h⟩
theorem Ha (l:List (List aQ))(h:l.length<=1000):l.length < sizeLine:=cA h (by decide)
structure Acc (H0:Hp) (p:Addr) (H:Hp) (ks:List (List aQ)):Prop where
 same:aB H0 H
 at_:∃ rs:List Addr,H p=some (.lst (rs.map V.ref))/\cH H rs ks
theorem Acc.put {H0 H H1:Hp}{p T:Addr}{ks:List (List aQ)}{k:List aQ}(A:Acc H0 p H ks)(hp:H0 p=none)(s:aB H H1)(hT:H1 T=none):∃ ys,upd H1 T (.tup (k.map kV)) p=some (.lst ys)/\ys.length=ks.length/\Acc H0 p (upd (upd H1 T (.tup (k.map kV))) p (.lst (ys ++ [.ref T]))) (ks ++ [k]):=by
 obtain⟨s0,rs,e,t⟩:=A
 have s1:=s.trans' (aB.new (o:=.tup (k.map kV)) hT)
 have e1:=s1 _ _ e
 refine⟨_,e1,by rw[aI]; exact t.1,bW hp (s0.trans' s1),rs ++ [T],?_,?_⟩
 ·rw[aF,bQ]
  rfl
 ·have t1:cH (upd H1 T (.tup (k.map kV))) (rs ++ [T]) (ks ++ [k]):=(t.mono s1).snoc aF
  exact t1.upd e1
theorem Acc.mono {H0 H H1:Hp}{p:Addr}{ks:List (List aQ)}(A:Acc H0 p H ks)(s:aB H H1):Acc H0 p H1 ks:=by
 obtain⟨s0,rs,e,t⟩:=A
 exact⟨s0.trans' s,rs,s _ _ e,t.mono s⟩
theorem Acc.back {H0 H1 H:Hp}{p:Addr}{ks:List (List aQ)}(A:Acc H1 p H ks)(s:aB H0 H1):Acc H0 p H ks:=⟨s.trans' A.same,A.at_⟩
theorem cH.item {H:Hp}{rs:List Addr}{ks:List (List aQ)}(h:cH H rs ks){i:Nat}{x:V}(hi:(rs.map V.ref)[i]? = some x):∃ r k,x=.ref r/\ks[i]? = some k/\H r=some (.tup (k.map kV)):=by
 rw[ar] at hi
 cases z:rs[i]? with
 | none=>rw[z] at hi; cases hi
 | some r =>
  rw[z] at hi
  cases hi
  have il:i < rs.length:=(cE.mp z).1
  have e:ks[i]? = some (ks[i]'(by rw[<- h.1]; exact il)):=bZ (by rw[<- h.1]; exact il)
  exact⟨r,_,rfl,e,h.2 i r _ z e⟩
def eC {α β:Type}(l:List α)(i:Nat)(F:α->List β):List β:=(l.take i).flatMap F
theorem oE {α β:Type}{l:List α}{i:Nat}{a:α}{F:α->List β}(h:l[i]? = some a):eC l (i + 1) F=eC l i F ++ F a:=by
 unfold eC
 rw[dA,h,pS]
 simp
theorem mR {α β:Type}{l:List α}{F:α->List β}{m:Nat}(h:∀ a,(F a).length<=m):∀ i,(eC l i F).length<=i * m
 | 0=>by simp[eC]
 | i + 1=>by
  cases e:l[i]? with
  | some a=>rw[oE e,cR,Nat.succ_mul]; exact Nat.add_le_add (mR h i) (h a)
  | none =>
   have:eC l (i + 1) F=eC l i F:=by unfold eC; rw[dA,e]; simp
   rw[this,Nat.succ_mul]
   exact b8 (mR h i) (Nat.le_add_right _ _)
def sk (q a:Nat):List aQ:=[.inl q,.inr ⟨#[a]⟩]
def qk (q r:Nat):List aQ:=[.inl q,.inl r]
structure dQ (n:Nat) (x:Str):Prop where
 len:x.length=n
 sgn:∀ i,i < n->ch x i=121∨ch x i=110∨ch x i=45
theorem Row.pat {n:Nat}{x:Str}(h:Row n x):dQ n x:=⟨h.len,λi hi=>(h.bin i hi).imp id .inl⟩
def kh (x:Str)(q:Nat):List (Nat×Nat):=if ch x q=45 then [] else [(q,ch x q)]
def bB (x:Str)(n:Nat):List (Nat×Nat):=(List.range n).flatMap (kh x)
theorem ya (x:Str)(n:Nat):bB x (n + 1)=bB x n ++ kh x n:=by unfold bB; rw[mH,pS]; simp
theorem nN (x:Str):∀ n,(bB x n).length<=n
 | 0=>by simp[bB]
 | n + 1=>by
  rw[ya,cR]
  have:(kh x n).length<=1:=by unfold kh; split <;> simp
  have:=nN x n
  omega
theorem m8 {x:Str}{n:Nat}{p:Nat×Nat}(h:p∈bB x n):p.1 < n/\p.2=ch x p.1/\¬ p.2=45:=by
 obtain⟨q,hq,h⟩:=eS.mp h
 unfold kh at h
 split at h
 ·cases h
 ·rename_i z
  rw[bH.mp h]
  exact⟨bK.mp hq,rfl,z⟩
theorem p5 {x:Str}{n q:Nat}(h:q < n)(z:¬ ch x q=45):(q,ch x q)∈bB x n:=by
 refine eS.mpr ⟨q,bK.mpr h,?_⟩
 unfold kh
 rw[aN z]
 exact bH.mpr rfl
def au (p:Nat×Nat):List aQ:=sk p.1 p.2
def fZ (rs:List Str)(m:Nat)(p p':Nat×Nat):List (List aQ):=if p.1<=p'.1/\aT rs p.1 p.2 p'.1 p'.2=m then [qk p.1 p'.1] else []
def qw (rs:List Str)(m:Nat)(G:List (Nat×Nat))(p:Nat×Nat):List (List aQ):=eC G G.length (fZ rs m p)
def fM (rs:List Str)(m:Nat)(G:List (Nat×Nat)):List (List aQ):=eC G G.length (qw rs m G)
theorem B9 (rs:List Str)(m:Nat)(p p':Nat×Nat):(fZ rs m p p').length<=1:=by unfold fZ; split <;> simp
theorem JI (rs:List Str)(m:Nat)(G:List (Nat×Nat))(p:Nat×Nat):(qw rs m G p).length<=G.length:=b8 (mR (B9 rs m p) G.length) (by omega)
theorem m7 (rs:List Str)(q a r b:Nat):aT rs q a r b=aT rs r b q a:=by
 unfold aT
 congr 1
 funext x
 exact nH.mpr And.comm
def b6 (rs:List Str)(n:Nat)(x:Str):Prop:=∀ q r,q < n->r < n->0 < aT rs q (ch x q) r (ch x r)
theorem yX {rs:List Str}{n:Nat}{x:Str}(h:x∈rs):b6 rs n x:=λq r _ _=>List.countP_pos_iff.mpr ⟨x,h,bR ⟨rfl,rfl⟩⟩
theorem xy {rs:List Str}{n:Nat}{x:Str}(h:b6 rs n x):fM rs 0 (bB x n)=[]:=by
 refine List.eq_nil_iff_forall_not_mem.mpr λk hk=>?_
 obtain⟨p,hp,hk⟩:=eS.mp hk
 obtain⟨p',hp',hk⟩:=eS.mp hk
 obtain⟨h1,h2,_⟩:=m8 (tH hp)
 obtain⟨h3,h4,_⟩:=m8 (tH hp')
 have:=h p.1 p'.1 h1 h3
 unfold fZ at hk
 rw[aN (λz=>by rw[h2,h4] at z; omega)] at hk
 cases hk
theorem NK {rs:List Str}{n:Nat}{x:Str}(hx:Row n x)(h:fM rs 0 (bB x n)=[]):b6 rs n x:=by
 have go:∀ q r,q < n->r < n->q<=r->0 < aT rs q (ch x q) r (ch x r):=λq r hq hr hle=>by
  have nq:¬ ch x q=45:=λz=>by have:=hx.bin q hq; omega
  have nr:¬ ch x r=45:=λz=>by have:=hx.bin r hr; omega
  cases z:aT rs q (ch x q) r (ch x r) with
  | succ _=>omega
  | zero =>
   exfalso
   have:qk q r∈fM rs 0 (bB x n):=by
    refine eS.mpr ⟨(q,ch x q),?_,eS.mpr ⟨(r,ch x r),?_,?_⟩⟩
    ·rw[cW]; exact p5 hq nq
    ·rw[cW]; exact p5 hr nr
    ·unfold fZ
     rw[aP ⟨hle,z⟩]
     exact bH.mpr rfl
   rw[h] at this
   cases this
 intro q r hq hr
 by_cases hle:q<=r
 ·exact go q r hq hr hle
 ·rw[m7]; exact go r q hr hq (by omega)
theorem cu {n:Nat}{x:Str}(h:x.length=n):x=tx n (ch x):=by
 obtain⟨a⟩:=x
 subst h
 unfold tx
 congr 1
 apply Array.ext
 ·simp[Str.length]
 ·intro i h1 h2
  simp[ch]
  rw[Array.getElem?_eq_getElem h1]
  rfl
theorem bE {n:Nat}{c:Nat->Nat}{i:Nat}(hi:i < n):ch (tx n c) i=c i:=by
 unfold ch tx
 simp[wb,hi]
theorem E7 {rs:List Str}{n:Nat}{a b c z:Str}(ha:Row n a)(hb:Row n b)(hc:Row n c)(Ba:b6 rs n a)(Bb:b6 rs n b)(Bc:b6 rs n c)(hz:∀ i,i < n->ch z i=if ch a i=ch b i then ch a i else ch c i):b6 rs n z:=by
 intro q r hq hr
 have key:∃ y,b6 rs n y/\ch y q=ch z q/\ch y r=ch z r:=by
  rw[hz q hq,hz r hr]
  have a1:=ha.bin q hq; have b1:=hb.bin q hq; have c1:=hc.bin q hq
  have a2:=ha.bin r hr; have b2:=hb.bin r hr; have c2:=hc.bin r hr
  by_cases e1:ch a q=ch b q
  ·rw[aP e1]
   by_cases e2:ch a r=ch b r
   ·rw[aP e2]; exact⟨a,Ba,rfl,rfl⟩
   ·rw[aN e2]
    by_cases e3:ch c r=ch a r
    ·exact⟨a,Ba,rfl,e3.symm⟩
    ·exact⟨b,Bb,e1.symm,by omega⟩
  ·rw[aN e1]
   by_cases e2:ch a r=ch b r
   ·rw[aP e2]
    by_cases e3:ch c q=ch a q
    ·exact⟨a,Ba,e3.symm,rfl⟩
    ·exact⟨b,Bb,by omega,e2.symm⟩
   ·rw[aN e2]; exact⟨c,Bc,rfl,rfl⟩
 obtain⟨y,By,e1,e2⟩:=key
 rw[<- e1,<- e2]
 exact By q r hq hr
section
variable {X:Cx}
def Ir:V->Option Int->Option Int->Hp->VK->Prop:=λx lo hi H Q=>∃ z,x=.str z/\z.length<=sizeLine/\Q (.str (Txt.slice z lo hi)) H
theorem u8:yg X Ir:=by
 intro pins s σ H x v vl vu lo hi sl Q I rx hs pl pu h
 obtain⟨z,rfl,hz,q⟩:=h
 obtain⟨t,rfl⟩:=rx
 have fin:∀(t' k:Nat),EP X pins σ Q (.str (Txt.slice z lo hi) t') { s with toks:=k }:=λt' k=>⟨.str _,H,I.tok k,⟨t',rfl⟩,q⟩
 refine⟨"str",_,slot_str_getitem.lookup,typeIs_str _ _ _,?_⟩
 cases pl with
 | none =>
  cases pu with
  | none=>exact we (l:=none) (u:=none) (st:=none) hs rfl (post_val_or_str ⟨b8 (nP z _ _) hz,λt' k=>fin _ _⟩)
  | int j uj=>exact we (l:=none) (u:=some (j,uj)) (st:=none) hs rfl (post_val_or_str ⟨b8 (nP z _ _) hz,λt' k=>fin _ _⟩)
 | int i ui =>
  cases pu with
  | none=>exact we (l:=some (i,ui)) (u:=none) (st:=none) hs rfl (post_val_or_str ⟨b8 (nP z _ _) hz,λt' k=>fin _ _⟩)
  | int j uj=>exact we (l:=some (i,ui)) (u:=some (j,uj)) (st:=none) hs rfl (post_val_or_str ⟨b8 (nP z _ _) hz,λt' k=>fin _ _⟩)
end
theorem Ac (x:Str)(l u:Option Int)(a b:Nat)(hb:b<=x.length)(e:Builtin.Str.strSliceIndices l u 1 x.length=sliceRange a b 1):(Txt.slice x l u).cps.toList=(x.cps.toList.drop a).take (b - a):=by
 unfold Txt.slice
 rw[e,sliceRange_one]
 by_cases h:((1:Int) == 1 && ((List.range (b - a)).map (a + ·)).length == x.length)=true
 ·rw[aP h]
  rw[aI,dk] at h
  have h:b - a=x.length:=by simpa using h
  have ha:a=0∨x.length=0:=by omega
  have hs:x.cps.toList.length=x.length:=by simp[Str.length]
  rcases ha with ha | ha
  ·subst ha
   rw[List.drop_zero,kE (by omega)]
  ·have:x.cps.toList=[]:=mJ.mp (by omega)
   rw[this]; simp
 ·rw[aN h]
  simp only[pick_run]
theorem Hc (x:Str)(q:Nat)(hq:q<=x.length):(Txt.slice x none (some q)).cps.toList=x.cps.toList.take q:=by
 rw[Ac x none (some q) 0 q hq]
 ·simp
 ·unfold Builtin.Str.strSliceIndices
  simp only[show(1:Int) > 0 by decide,jM]
  congr 1
  rw[aN (by omega)]
  omega
theorem Hd (x:Str)(q:Nat)(hq:q<=x.length):(Txt.slice x (some q) none).cps.toList=x.cps.toList.drop q:=by
 have hs:x.cps.toList.length=x.length:=by simp[Str.length]
 rw[Ac x (some q) none q x.length (aY _)]
 ·exact kE (by rw[o0]; omega)
 ·unfold Builtin.Str.strSliceIndices
  simp only[show(1:Int) > 0 by decide,jM]
  congr 1
  rw[aN (by omega)]
  omega
def cJ (x:Str)(q a:Nat)(i:Nat):Nat:=if i=q then a else ch x i
theorem zY (n:Nat)(c:Nat->Nat):(tx n c).cps.toList=(List.range n).map c:=by unfold tx; simp
theorem zL {n q a:Nat}{x:Str}(hx:x.length=n)(hq:q < n):Txt.slice x none (some (q:Int)) ++ (⟨#[a]⟩:Str) ++ Txt.slice x (some ((q:Int) + 1)) none=tx n (cJ x q a):=by
 have h1:=Hc x q (by omega)
 have h2:=Hd x (q + 1) (by omega)
 have eq1:(((q + 1:Nat):Int))=(q:Int) + 1:=by omega
 rw[eq1] at h2
 have hxl:x.cps.toList=(List.range n).map (ch x):=by
  have:=cu hx
  rw[this,zY]
  refine wV λi hi=>?_
  rw[bE (bK.mp hi)]
 have key:(Txt.slice x none (some (q:Int)) ++ (⟨#[a]⟩:Str) ++ Txt.slice x (some ((q:Int) + 1)) none).cps.toList=(tx n (cJ x q a)).cps.toList:=by
  show((Txt.slice x none (some (q:Int))).cps ++ #[a] ++ (Txt.slice x (some ((q:Int) + 1)) none).cps).toList=_
  rw[Array.toList_append,Array.toList_append,h1,h2,hxl,zY]
  apply List.ext_getElem?
  intro i
  rw[<- tI,<- List.map_drop]
  by_cases hi:i < q
  ·rw[pU,ky (by rw[aI,cZ,dk]; omega),ar,ar,List.getElem?_take,aP hi,o4 (by omega)]
   show some (ch x i)=some (cJ x q a i)
   unfold cJ
   rw[aN (by omega)]
  ·by_cases he:i=q
   ·subst he
    rw[ky (by rw[cR,aI,cZ,dk]; show i < min i n + 1; omega),ku (by rw[aI,cZ,dk]; omega),aI,cZ,dk,ar,o4 hq]
    have:i - min i n=0:=by omega
    rw[this]
    show some a=some (cJ x i a i)
    unfold cJ
    rw[aP rfl]
   ·have l1:(List.map (ch x) (List.take q (List.range n)) ++ #[a].toList).length=q + 1:=by
     rw[cR,aI,cZ,dk]
     show min q n + 1=q + 1
     omega
    rw[ku (by rw[l1]; omega),l1,ar,yq,ar]
    have e:q + 1 + (i - (q + 1))=i:=by omega
    rw[e]
    by_cases hn:i < n
    ·rw[o4 hn]
     show some (ch x i)=some (cJ x q a i)
     unfold cJ
     rw[aN he]
    ·rw[List.getElem?_eq_none (by rw[dk]; omega)]
     rfl
 have:∀ s t:Str,s.cps.toList=t.cps.toList->s=t:=λs t h=>by
  obtain⟨s⟩:=s
  obtain⟨t⟩:=t
  congr 1
  exact Array.toList_inj.mp h
 exact this _ _ key
def eh (rs:List Str)(n:Nat)(x:Str):Prop:=∀ q r,q < n->r < n->¬ ch x q=45->¬ ch x r=45->0 < aT rs q (ch x q) r (ch x r)
def eM (rs:List Str)(n:Nat)(x:Str)(q a:Nat):Prop:=0 < aT rs q a q a/\∀ r,r < n->¬ ch x r=45->0 < aT rs q a r (ch x r)
theorem bn {rs:List Str}{q a r b:Nat}:0 < aT rs q a r b↔∃ x∈rs,ch x q=a/\ch x r=b:=by
 unfold aT
 rw[List.countP_pos_iff]
 exact⟨λ⟨x,h,e⟩=>⟨x,h,cw e⟩,λ⟨x,h,e⟩=>⟨x,h,bR e⟩⟩
theorem MF {rs:List Str}{n:Nat}{x:Str}{q:Nat}(hS:eh rs n x)(hrs:∀ y∈rs,Row n y)(h0:rs≠[])(hq:q < n)(hn:¬ eM rs n x q 110):eM rs n x q 121:=by
 have bin:∀ y∈rs,ch y q=121∨ch y q=110:=λy hy=>(hrs y hy).bin q hq
 by_cases h1:0 < aT rs q 110 q 110
 ·have:∃ r,r < n/\¬ ch x r=45/\¬ 0 < aT rs q 110 r (ch x r):=by
   apply o8
   intro hc
   refine hn ⟨h1,λr hr hx=>?_⟩
   apply o8
   intro z
   exact hc ⟨r,hr,hx,z⟩
  obtain⟨r,hr,hxr,zr⟩:=this
  have all:∀ y∈rs,ch y r=ch x r->ch y q=121:=λy hy e=>by
   rcases bin y hy with b | b
   ·exact b
   ·exact absurd (bn.mpr ⟨y,hy,b,e⟩) zr
  refine⟨?_,λr' hr' hx'=>?_⟩
  ·obtain⟨y,hy,e1,_⟩:=bn.mp (hS r r hr hr hxr hxr)
   have:=all y hy e1
   exact bn.mpr ⟨y,hy,this,this⟩
  ·obtain⟨y,hy,e1,e2⟩:=bn.mp (hS r r' hr hr' hxr hx')
   exact bn.mpr ⟨y,hy,all y hy e1,e2⟩
 ·have all:∀ y∈rs,ch y q=121:=λy hy=>by
   rcases bin y hy with b | b
   ·exact b
   ·exact absurd (bn.mpr ⟨y,hy,b,b⟩) h1
  refine⟨?_,λr' hr' hx'=>?_⟩
  ·obtain⟨y,hy⟩:=List.exists_mem_of_ne_nil rs h0
   exact bn.mpr ⟨y,hy,all y hy,all y hy⟩
  ·obtain⟨y,hy,e1,e2⟩:=bn.mp (hS r' r' hr' hr' hx' hx')
   exact bn.mpr ⟨y,hy,all y hy,e1⟩
theorem Ct {rs:List Str}{n:Nat}{x:Str}{q a:Nat}(hS:eh rs n x)(hq:q < n)(hf:eM rs n x q a):eh rs n (tx n (cJ x q a)):=by
 intro i j hi hj
 rw[bE hi,bE hj]
 unfold cJ
 by_cases e1:i=q
 ·rw[aP e1]
  by_cases e2:j=q
  ·rw[aP e2,e1,e2]; exact λ_ _=>hf.1
  ·rw[aN e2,e1]; exact λ_ h=>hf.2 j hj h
 ·rw[aN e1]
  by_cases e2:j=q
  ·rw[aP e2,e2]
   intro h _
   rw[m7]
   exact hf.2 i hi h
  ·rw[aN e2]; exact λh1 h2=>hS i j hi hj h1 h2
theorem stands_of {rs:List Str}{n:Nat}{x:Str}(h:fM rs 0 (bB x n)=[]):eh rs n x:=by
 have go:∀ q r,q < n->r < n->q<=r->¬ ch x q=45->¬ ch x r=45->0 < aT rs q (ch x q) r (ch x r):=λq r hq hr hle nq nr=>by
  cases z:aT rs q (ch x q) r (ch x r) with
  | succ _=>omega
  | zero =>
   exfalso
   have:qk q r∈fM rs 0 (bB x n):=by
    refine eS.mpr ⟨(q,ch x q),?_,eS.mpr ⟨(r,ch x r),?_,?_⟩⟩
    ·rw[cW]; exact p5 hq nq
    ·rw[cW]; exact p5 hr nr
    ·unfold fZ
     rw[aP ⟨hle,z⟩]
     exact bH.mpr rfl
   rw[h] at this
   cases this
 intro q r hq hr nq nr
 by_cases hle:q<=r
 ·exact go q r hq hr hle nq nr
 ·rw[m7]; exact go r q hr hq (by omega) nr nq
theorem vm {rs:List Str}{n:Nat}{x:Str}(h:eh rs n x):fM rs 0 (bB x n)=[]:=by
 refine List.eq_nil_iff_forall_not_mem.mpr λk hk=>?_
 obtain⟨p,hp,hk⟩:=eS.mp hk
 obtain⟨p',hp',hk⟩:=eS.mp hk
 obtain⟨h1,h2,h5⟩:=m8 (tH hp)
 obtain⟨h3,h4,h6⟩:=m8 (tH hp')
 have:=h p.1 p'.1 h1 h3 (by rw[<- h2]; exact h5) (by rw[<- h4]; exact h6)
 unfold fZ at hk
 rw[aN (λz=>by rw[h2,h4] at z; omega)] at hk
 cases hk
def OZ (c:Addr)(q:Str):HO:=.ext λh=>h.CodeRec (.ref c) q
structure TabOk (H:Hp) (P:Addr) (q:Str):Prop where
 ex:∃ ps,H P=some (.tbl ps)/\TriplesOk ps.toList/\∀ pos cv,codeAmong pos ps.toList=some cv->∃ c,cv=.ref c/\c≠P/\H c=some (OZ c q)
structure BMain (mg:Str->Option Value) (base:Heap):Prop where
 ex:∃ bm ob,mg "__builtins__" = some (.ref bm)/\bm≠builtinsNs/\base.get? bm=some ob/\ob.cls=.type "module" /\ ob.dict=some builtinsNs/\ob.data=.plain
section
variable {X:Cx}{pins:List (Addr×Obj)}{σ:St}{H:Hp}{s:Shared}
end
structure Og (sc:Scope):Prop where
 kind:sc.kind=.function
 co:sc.isCoroutine=false
 gen:sc.isGenerator=false
 nocell:∀ x∈sc.names,x.2≠.cell
structure Caps (base:Heap) (N:List Str) (scope:Scope) (cl:List (Str×Addr)) (σ:St):Prop where
 inj:∀ x y c,cl.lookup x=some c->cl.lookup y=some c->x=y
 has:∀ x,scope.names.lookup x=some .free->∃ c,cl.lookup x=some c
 cell:∀ x c,cl.lookup x=some c->∃ v,base.IsCell c v
 val:∀(i:Nat) (x:Str) (v:V),N[i]? = some x->σ[i]? = some (some v)->∃ c u,scope.names.lookup x=some .free/\cl.lookup x=some c/\base.IsCell c (some u)/\RelV v u
 len:σ.length=N.length
section
variable {CX:gz}{P:Program}{w:World}{K:PySem.W.Frag}{mg:Str->Option Value}{base:Heap}{k:Nat}{f c:Addr}{qual:Str}{params:Arguments}{body:Expr}{scope:Scope}{cl:List (Str×Addr)}{pm ctv:Value}{N:List Str}{σ:St}{sp:Sp}
end
section
variable {X:Cx}{CX:gz}{k:Nat}{f:Addr}{fd:FuncData}{ps:List Str}{sp:Sp}{E:XK}{x:Str}{p pos:Pos}
end
section
variable {X:Cx}
def qL:Str := "law" ++ ".<locals>." ++ "<lambda>"
theorem Mm (xs:List Int)(n:Nat)(h:xs.length<=1000):gA (xs.map V.int) (some n) none=(xs.drop n).map V.int:=by
 unfold gA
 rw[<- List.map_drop,<- tI]
 congr 1
 have e1:HT.sIx (xs.map V.int).length 0 (some (n:Int))=min n xs.length:=by
  rw[aI]
  unfold HT.sIx
  simp only
  split <;> omega
 have e2:HT.sIx (xs.map V.int).length (xs.map V.int).length none=xs.length:=by
  rw[aI]
  rfl
 rw[e1,e2]
 by_cases z:n<=xs.length
 ·rw[Nat.min_eq_left z]
  exact kE (by rw[o0]; exact aY _)
 ·rw[Nat.min_eq_right (by omega),yv (aY _),yv (by omega)]
  simp
theorem JF {L:List Str}(h:0 < L.length)(x:Int):∃ y∈L,cL (L.map V.str) (x % ((L.map V.str).length:Nat))=some (.str y):=by
 rw[aI]
 have b:0<=x % (L.length:Int)/\x % (L.length:Int) < L.length:=⟨lA _ (by omega),lB _ (by omega)⟩
 obtain⟨j,hj⟩:∃ j:Nat,(j:Int)=x % (L.length:Int):=⟨(x % (L.length:Int)).toNat,by omega⟩
 have jl:j < L.length:=by omega
 refine⟨L[j],List.getElem_mem jl,?_⟩
 rw[<- hj]
 refine dv ?_
 rw[ar,bZ jl]
 rfl
theorem Mj (xs:List Str)(k:Nat):gA (xs.map V.str) none (some (k:Int))=(xs.take k).map V.str:=by
 unfold gA
 have e2:HT.sIx (xs.map V.str).length (xs.map V.str).length (some (k:Int))=min k xs.length:=by
  rw[aI]
  unfold HT.sIx
  simp only
  split <;> omega
 rw[e2]
 show((xs.map V.str).drop 0).take (min k xs.length - 0)=_
 rw[List.drop_zero,Nat.sub_zero,<- tI]
 congr 1
 by_cases z:k<=xs.length
 ·rw[Nat.min_eq_left z]
 ·rw[Nat.min_eq_right (by omega),kE (by omega),kE (by omega)]
theorem DK {K:PySem.W.Frag}{H:Hp}{p:Addr}{x y:V}{d e:Dt}(h:H p=some (.tup [x,y]))(hx:cM K H x d)(hy:cM K H y e):cM K H (.ref p) (.tup [d,e]):=by
 refine .tup (.inl (.inl h)) rfl (show 2<=5000 by decide) λi u v hu hv=>?_
 match i,hu,hv with
 | 0,hu,hv=>cases hu; cases hv; exact hx
 | 1,hu,hv=>cases hu; cases hv; exact hy
 | _ + 2,hu,_=>cases hu
theorem DL {K:PySem.W.Frag}{H:Hp}{p:Addr}{xs:List Str}(h:H p=some (.lst (xs.map V.str)))(hl:xs.length<=5000):cM K H (.ref p) (.lst (xs.map Dt.str)):=by
 refine .lst (aD.of h) (by rw[aI,aI]) (by rw[aI]; exact hl) λi u d hu hd=>?_
 rw[ar] at hu hd
 cases z:xs[i]? with
 | none=>rw[z] at hu; cases hu
 | some y=>rw[z] at hu hd; cases hu; cases hd; exact .str _
theorem Cw:∀ xs:List Str,Dt.eqb.eqbs (xs.map Dt.str) (xs.map Dt.str)=true
 | []=>rfl
 | x :: r=>by
  show((Dt.str x).eqb (.str x) && Dt.eqb.eqbs (r.map Dt.str) (r.map Dt.str))=true
  rw[Cw r,mO]
  exact bR rfl
theorem DP:∀ xs:List Str,Dt.deep.deeps (xs.map Dt.str)=0
 | []=>rfl
 | x :: r=>by show max 0 (Dt.deep.deeps (r.map Dt.str))=0; rw[DP r]; rfl
theorem ox {H H':Hp}{p:Addr}(s:aB H H')(h:H' p=none):H p=none:=by
 cases z:H p with
 | none=>rfl
 | some o=>rw[s _ _ z] at h; cases h
theorem xP {j:Nat}(h:j<=12):2 ^ j<=4096:=b8 (Nat.pow_le_pow_right (by decide) h) (by decide)
theorem MK (xs:List Str):(Dt.lst (xs.map Dt.str)).eqb (.lst (xs.map Dt.str))=true:=Cw xs
theorem Md (xs:List Str):(Dt.lst (xs.map Dt.str)).deep<=1:=by
 show 1 + Dt.deep.deeps (xs.map Dt.str)<=1
 rw[DP]
 decide
def B2 (K:PySem.W.Frag):R2:=λx y H Q=>∃ a b xs,x=.ref a/\y=.ref b/\aD K H a xs/\aD K H b []/\Q (.bl xs.isEmpty) H
theorem xV (hu:X.A.units < cLine):d9 X (compareOp .Eq) (B2 X.K):=by
 intro pins s σ H x y v u Q I rx ry h
 obtain⟨a,b,xs,rfl,rfl,ha,hb,q⟩:=h
 cases rx
 cases ry
 obtain⟨its,r1,p1,_⟩:=I.list ha
 obtain⟨its2,r2,p2,_⟩:=I.list hb
 cases r2
 cases r1 with
 | nil=>exact PySem.EqBoolInt.of_rc (SeqAt.RcAt.lists (e:=λ_=>true) p1.isList p2.isList rfl hu (λj h1 _=>absurd h1 (by simp))) ⟨.bl true,H,I,rfl,q⟩
 | cons r t=>exact PySem.EqBoolInt.of_rc (SeqAt.RcAt.lists_lengths p1.isList p2.isList (by simp) hu) ⟨.bl false,H,I,rfl,q⟩
def Fh (K:PySem.W.Frag)(ta:TE):TT:=λσ H Q=>ta σ H λx H'=>∃ k,yf K x H' k/\Q k H'
theorem J5 {K:PySem.W.Frag}{a:Expr}{ta:TE}(hK:X.K=K)(ha:PE X a ta)(he:∀ whole,isTrue a X.env whole=(do let v <- whole; standAt a.pos; holding [v] (truthy v))):PT X a (Fh K ta):=by
 subst hK
 exact oY ha he
def Iv (K:PySem.W.Frag):List V->Hp->VK->Prop:=λxs H Q=>∃ p ys,xs=[V.ref p]/\(aD K H p ys∨bT K H p ys)/\Q (V.int ys.length) H
theorem ND {K:PySem.W.Frag}(hK:X.K=K):gZ X (.builtin "len") (Iv K):=by
 subst hK
 exact fO
end
theorem Aa {α:Type}{R:α->α->Prop}(irr:∀ a,¬ R a a)(asy:∀ a b,R a b->¬ R b a):∀{l1 l2:List α},l1.Pairwise R->l2.Pairwise R->(∀ a,a∈l1↔a∈l2)->l1=l2
 | [],[],_,_,_=>rfl
 | [],b :: s,_,_,h=>absurd ((h b).mpr eJ) (by simp)
 | a :: r,[],_,_,h=>absurd ((h a).mp eJ) (by simp)
 | a :: r,b :: s,h1,h2,h=>by
  obtain⟨a1,r1⟩:=List.pairwise_cons.mp h1
  obtain⟨b2,s2⟩:=List.pairwise_cons.mp h2
  have e:a=b:=by
   rcases bh.mp ((h a).mp eJ) with e | ha
   ·exact e
   ·rcases bh.mp ((h b).mpr eJ) with e | hb
    ·exact e.symm
    ·exact absurd (b2 a ha) (asy a b (a1 b hb))
  subst e
  congr 1
  refine Aa irr asy r1 s2 λc=>⟨λhc=>?_,λhc=>?_⟩
  ·rcases bh.mp ((h c).mp (dy _ hc)) with e | hs
   ·rw[e] at hc; exact absurd (a1 a hc) (irr a)
   ·exact hs
  ·rcases bh.mp ((h c).mpr (dy _ hc)) with e | hs
   ·rw[e] at hc; exact absurd (b2 a hc) (irr a)
   ·exact hs
def j9 (n:Nat)(x y:Str):Prop:=∃ i,i < n/\(∀ j,j < i->ch x j=ch y j)/\ch x i < ch y i
theorem Od {n:Nat}(x:Str):¬ j9 n x x:=λ⟨i,_,_,h⟩=>ia _ h
theorem Oe {n:Nat}(x y:Str)(h:j9 n x y):¬ j9 n y x:=by
 obtain⟨i,hi,e,l⟩:=h
 rintro⟨j,hj,e',l'⟩
 rcases Nat.lt_trichotomy i j with z | z | z
 ·have:=e' i z; omega
 ·subst z; omega
 ·have:=e j z; omega
theorem NR {n:Nat}{l1 l2:List Str}(h1:l1.Pairwise (j9 n))(h2:l2.Pairwise (j9 n))(h:∀ a,a∈l1↔a∈l2):l1=l2:=Aa Od Oe h1 h2 h
theorem qJ {n:Nat}{x y:Str}(hx:x.length=n)(hy:y.length=n)(h:∀ i,i < n->ch x i=ch y i):x=y:=by
 rw[cu hx,cu hy]
 exact mT h
def yz (rs:List Str)(k:Nat)(t:Str)(a:Nat):Prop:=(∀ q,q < k->0 < aT rs q (ch t q) k a)/\0 < aT rs k a k a
noncomputable def oX (rs:List Str)(k:Nat)(t:Str)(a:Nat):List Str:=open Classical in if yz rs k t a then [tx (k + 1) (λi=>if i < k then ch t i else a)] else []
noncomputable def qt (rs:List Str)(k:Nat)(t:Str):List Str:=oX rs k t 110 ++ oX rs k t 121
noncomputable def jG (rs:List Str):Nat->List Str
 | 0=>[⟨#[]⟩]
 | k + 1=>(jG rs k).flatMap (qt rs k)
theorem vZ {rs:List Str}{k a:Nat}{t z:Str}:z∈oX rs k t a↔yz rs k t a/\z=tx (k + 1) (λi=>if i < k then ch t i else a):=by
 unfold oX
 split
 ·rename_i h; exact⟨λw=>⟨h,bH.mp w⟩,λw=>bH.mpr w.2⟩
 ·rename_i h; exact⟨(λw=>by cases w),(λw=>absurd w.1 h)⟩
theorem va {rs:List Str}{k:Nat}{t z:Str}:z∈qt rs k t↔∃ a,(a=110∨a=121)/\yz rs k t a/\z=tx (k + 1) (λi=>if i < k then ch t i else a):=by
 unfold qt
 rw[List.mem_append,vZ,vZ]
 exact⟨λh=>h.elim (λh=>⟨110,.inl rfl,h⟩) (λh=>⟨121,.inr rfl,h⟩),λ⟨a,ha,h⟩=>ha.elim (λe=>by subst e; exact .inl h) (λe=>by subst e; exact .inr h)⟩
theorem jF {rs:List Str}:∀{k:Nat}{z:Str},z∈jG rs k↔Row k z/\b6 rs k z
 | 0,z=>by
  constructor
  ·intro h
   rw[bH.mp h]
   exact⟨⟨rfl,λi hi=>by omega⟩,λq r hq=>by omega⟩
  ·rintro⟨h,_⟩
   refine bH.mpr ?_
   exact qJ h.len rfl λi hi=>by omega
 | k + 1,z=>by
  show z∈(jG rs k).flatMap (qt rs k)↔_
  rw[List.mem_flatMap]
  constructor
  ·rintro⟨t,ht,hz⟩
   obtain⟨rt,bt⟩:=jF.mp ht
   obtain⟨a,ha,⟨g1,g2⟩,rfl⟩:=va.mp hz
   have c1:∀ i,i < k->ch (tx (k + 1) (λi=>if i < k then ch t i else a)) i=ch t i:=λi hi=>by rw[bE (by omega),aP hi]
   have c2:ch (tx (k + 1) (λi=>if i < k then ch t i else a)) k=a:=by rw[bE (by omega),aN (by omega)]
   refine⟨⟨ce _ _,λi hi=>?_⟩,λq r hq hr=>?_⟩
   ·by_cases h:i < k
    ·rw[c1 i h]; exact rt.bin i h
    ·rw[show i=k by omega,c2]; omega
   ·by_cases h:q < k
    ·by_cases h':r < k
     ·rw[c1 q h,c1 r h']; exact bt q r h h'
     ·rw[show r=k by omega,c1 q h,c2]; exact g1 q h
    ·by_cases h':r < k
     ·rw[show q=k by omega,c1 r h',c2,m7]; exact g1 r h'
     ·rw[show q=k by omega,show r=k by omega,c2]; exact g2
  ·rintro⟨rz,bz⟩
   have c1:∀ i,i < k->ch (tx k (ch z)) i=ch z i:=λi hi=>bE hi
   refine⟨tx k (ch z),jF.mpr ⟨⟨ce _ _,λi hi=>by rw[c1 i hi]; exact rz.bin i (by omega)⟩,λq r hq hr=>by rw[c1 q hq,c1 r hr]; exact bz q r (by omega) (by omega)⟩,va.mpr ⟨ch z k,by have:=rz.bin k (by omega); omega,⟨λq hq=>by rw[c1 q hq]; exact bz q k (by omega) (by omega),bz k k (by omega) (by omega)⟩,?_⟩⟩
   refine qJ rz.len (ce _ _) λi hi=>?_
   rw[bE hi]
   by_cases h:i < k
   ·rw[aP h,c1 i h]
   ·rw[aN h,show i=k by omega]
theorem xD {rs:List Str}:∀ k,(jG rs k).Pairwise (j9 k)
 | 0=>pQ _ _
 | k + 1=>by
  refine List.pairwise_flatMap.mpr ⟨λt ht=>?_,?_⟩
  ·unfold qt
   refine List.pairwise_append.mpr ⟨?_,?_,λx hx y hy=>?_⟩
   ·unfold oX; split
    ·exact pQ _ _
    ·exact List.Pairwise.nil
   ·unfold oX; split
    ·exact pQ _ _
    ·exact List.Pairwise.nil
   ·obtain⟨_,rfl⟩:=vZ.mp hx
    obtain⟨_,rfl⟩:=vZ.mp hy
    refine⟨k,by omega,λj hj=>?_,?_⟩
    ·rw[bE (by omega),bE (by omega),aP hj,aP hj]
    ·rw[bE (by omega),bE (by omega),aN (by omega),aN (by omega)]; decide
  ·refine(xD k).imp λ{t t'} h x hx y hy=>?_
   obtain⟨i,hi,e,l⟩:=h
   obtain⟨a,_,_,rfl⟩:=va.mp hx
   obtain⟨b,_,_,rfl⟩:=va.mp hy
   refine⟨i,by omega,λj hj=>?_,?_⟩
   ·rw[bE (by omega),bE (by omega),aP (by omega),aP (by omega)]; exact e j hj
   ·rw[bE (by omega),bE (by omega),aP hi,aP hi]; exact l
noncomputable def gK (rs:List Str)(n:Nat)(p:Str)(q a:Nat):List Str:=open Classical in if eM rs n p q a then [tx n (cJ p q a)] else []
noncomputable def iT (rs:List Str)(n q:Nat)(p:Str):List Str:=gK rs n p q 110 ++ gK rs n p q 121
theorem vb {rs:List Str}{n q a:Nat}{p z:Str}:z∈gK rs n p q a↔eM rs n p q a/\z=tx n (cJ p q a):=by
 unfold gK
 split
 ·rename_i h; exact⟨λw=>⟨h,bH.mp w⟩,λw=>bH.mpr w.2⟩
 ·rename_i h; exact⟨(λw=>by cases w),(λw=>absurd w.1 h)⟩
theorem vc {rs:List Str}{n q:Nat}{p z:Str}:z∈iT rs n q p↔∃ a,(a=110∨a=121)/\eM rs n p q a/\z=tx n (cJ p q a):=by
 unfold iT
 rw[List.mem_append,vb,vb]
 exact⟨λh=>h.elim (λh=>⟨110,.inl rfl,h⟩) (λh=>⟨121,.inr rfl,h⟩),λ⟨a,ha,h⟩=>ha.elim (λe=>by subst e; exact .inl h) (λe=>by subst e; exact .inr h)⟩
structure km (rs:List Str) (n:Nat) (x:Str) (ds:List Nat) (ps:List Str):Prop where
 sorted:ps.Pairwise (j9 n)
 mem:∀ z,z∈ps↔z.length=n/\(∀ i,i < n->i∈ds->ch z i=121∨ch z i=110)/\(∀ i,i < n->i∉ds->ch z i=ch x i)/\eh rs n z
theorem km.start {rs:List Str}{n:Nat}{x:Str}(hx:x.length=n)(hS:eh rs n x):km rs n x [] [x]:=by
 refine⟨pQ _ _,λz=>⟨λh=>?_,λh=>?_⟩⟩
 ·rw[bH.mp h]
  exact⟨hx,(λi _ h=>by cases h),(λi _ _=>rfl),hS⟩
 ·exact bH.mpr (qJ h.1 hx λi hi=>h.2.2.1 i hi (by simp))
theorem km.step {rs:List Str}{n q:Nat}{x:Str}{ds:List Nat}{ps:List Str}(h:km rs n x ds ps)(hq:q < n)(hx:ch x q=45)(hd:∀ i∈ds,i < q):km rs n x (ds ++ [q]) (ps.flatMap (iT rs n q)):=by
 have nq:q∉ds:=λz=>ia _ (hd q z)
 refine⟨List.pairwise_flatMap.mpr ⟨λp hp=>?_,?_⟩,λz=>?_⟩
 ·unfold iT
  refine List.pairwise_append.mpr ⟨?_,?_,λa ha b hb=>?_⟩
  ·unfold gK; split
   ·exact pQ _ _
   ·exact List.Pairwise.nil
  ·unfold gK; split
   ·exact pQ _ _
   ·exact List.Pairwise.nil
  ·obtain⟨_,rfl⟩:=vb.mp ha
   obtain⟨_,rfl⟩:=vb.mp hb
   refine⟨q,hq,λj hj=>?_,?_⟩
   ·rw[bE (by omega),bE (by omega)]
    unfold cJ
    rw[aN (by omega),aN (by omega)]
   ·rw[bE hq,bE hq]
    unfold cJ
    rw[aP rfl,aP rfl]
    decide
 ·refine(List.pairwise_iff_forall_sublist.mpr λ{p p'} hs=>?_)
  have b:=List.pairwise_iff_forall_sublist.mp h.sorted hs
  have mp:p∈ps:=hs.subset (by simp)
  have mp':p'∈ps:=hs.subset (by simp)
  obtain⟨i,hi,e,l⟩:=b
  have iq:i < q:=by
   apply o8
   intro z
   have:i∉ds:=λw=>z (hd i w)
   have e1:=((h.mem p).mp mp).2.2.1 i hi this
   have e2:=((h.mem p').mp mp').2.2.1 i hi this
   omega
  intro a ha b hb
  obtain⟨_,_,_,rfl⟩:=vc.mp ha
  obtain⟨_,_,_,rfl⟩:=vc.mp hb
  refine⟨i,hi,λj hj=>?_,?_⟩
  ·rw[bE (by omega),bE (by omega)]
   unfold cJ
   rw[aN (by omega),aN (by omega)]
   exact e j hj
  ·rw[bE hi,bE hi]
   unfold cJ
   rw[aN (by omega),aN (by omega)]
   exact l
 ·rw[List.mem_flatMap]
  constructor
  ·rintro⟨p,hp,hz⟩
   obtain⟨l1,l2,l3,l4⟩:=(h.mem p).mp hp
   obtain⟨a,ha,hf,rfl⟩:=vc.mp hz
   refine⟨ce _ _,λi hi hm=>?_,λi hi hm=>?_,Ct l4 hq hf⟩
   ·rw[bE hi]
    unfold cJ
    split
    ·omega
    ·rename_i ne
     refine l2 i hi ?_
     rcases gQ.mp hm with hm | hm
     ·exact hm
     ·exact absurd (bH.mp hm) ne
   ·have ne:¬ i=q:=λz=>hm (eK _ (bH.mpr z))
    rw[bE hi]
    unfold cJ
    rw[aN ne]
    exact l3 i hi λw=>hm (pR _ w)
  ·rintro⟨l1,l2,l3,l4⟩
   have sq:ch z q=121∨ch z q=110:=l2 q hq (eK _ (bH.mpr rfl))
   have c1:∀ i,i < n->¬ i=q->ch (tx n (cJ z q 45)) i=ch z i:=λi hi ne=>by rw[bE hi]; unfold cJ; rw[aN ne]
   have c2:ch (tx n (cJ z q 45)) q=45:=by rw[bE hq]; unfold cJ; rw[aP rfl]
   refine⟨tx n (cJ z q 45),(h.mem _).mpr ⟨ce _ _,λi hi hm=>?_,λi hi hm=>?_,λi j hi hj h1 h2=>?_⟩,vc.mpr ⟨ch z q,by omega,⟨l4 q q hq hq (by omega) (by omega),λr hr hn=>?_⟩,?_⟩⟩
   ·rw[c1 i hi (λw=>nq (w ▸ hm))]
    exact l2 i hi (pR _ hm)
   ·by_cases ne:i=q
    ·rw[ne,c2,hx]
    ·rw[c1 i hi ne]
     exact l3 i hi λw=>(gQ.mp w).elim hm λw=>ne (bH.mp w)
   ·have ni:¬ i=q:=λw=>h1 (by rw[w]; exact c2)
    have nj:¬ j=q:=λw=>h2 (by rw[w]; exact c2)
    rw[c1 i hi ni] at h1 ⊢
    rw[c1 j hj nj] at h2 ⊢
    exact l4 i j hi hj h1 h2
   ·have nr:¬ r=q:=λw=>hn (by rw[w]; exact c2)
    rw[c1 r hr nr] at hn ⊢
    exact l4 q r hq hr (by omega) hn
   ·refine qJ l1 (ce _ _) λi hi=>?_
    rw[bE hi]
    by_cases ne:i=q
    ·unfold cJ; rw[aP ne,ne]
    ·have:=c1 i hi ne
     unfold cJ
     rw[aN ne]
     exact this.symm
theorem km.done {rs:List Str}{n:Nat}{x:Str}{ds:List Nat}{ps:List Str}(h:km rs n x ds ps)(hx:dQ n x)(hd:∀ i,i < n->(i∈ds↔ch x i=45))(m:Str->Bool)(hm:∀ z,m z=true↔∀ i,i < n->ch x i=45∨ch x i=ch z i):ps=(jG rs n).filter m:=by
 refine NR h.sorted ((xD n).filter _) λz=>?_
 rw[h.mem,cY,jF,hm]
 constructor
 ·rintro⟨l1,l2,l3,l4⟩
  have bin:∀ i,i < n->ch z i=121∨ch z i=110:=λi hi=>by
   by_cases w:i∈ds
   ·exact l2 i hi w
   ·have:=hx.sgn i hi
    have nd:¬ ch x i=45:=λz=>w ((hd i hi).mpr z)
    rw[l3 i hi w]
    omega
  refine⟨⟨⟨l1,bin⟩,λq r hq hr=>l4 q r hq hr (by have:=bin q hq; omega) (by have:=bin r hr; omega)⟩,λi hi=>?_⟩
  by_cases w:i∈ds
  ·exact .inl ((hd i hi).mp w)
  ·exact .inr (l3 i hi w).symm
 ·rintro⟨⟨rz,bz⟩,mt⟩
  refine⟨rz.len,λi hi _=>rz.bin i hi,λi hi w=>?_,λq r hq hr _ _=>bz q r hq hr⟩
  rcases mt i hi with e | e
  ·exact absurd ((hd i hi).mpr e) w
  ·exact e.symm
theorem KO {rs:List Str}{n:Nat}{x:Str}(hn:¬ fM rs 0 (bB x n)=[])(m:Str->Bool)(hm:∀ z,m z=true↔∀ i,i < n->ch x i=45∨ch x i=ch z i):(jG rs n).filter m=[]:=by
 refine List.eq_nil_iff_forall_not_mem.mpr λz hz=>hn (vm λq r hq hr h1 h2=>?_)
 obtain⟨hr',hz⟩:=cY.mp hz
 obtain⟨rz,bz⟩:=jF.mp hr'
 have mt:=(hm z).mp hz
 rw[(mt q hq).resolve_left h1,(mt r hr).resolve_left h2]
 exact bz q r hq hr
def Ik (fm:List (Option Nat))(wi:TI)(g:TG)(tt:TT)(tb:Addr->gM)(i:Nat):TS:=λD σ H=>wi σ H λJ H1=>∀ p,H1 p=none ->
 lJ J g tt (tb p) (seeσ fm σ) (upd H1 p (.lst [])) λ_ H2=>D.nx (σ.set i (some (.ref p))) H2
section
variable {X:Cx}{elt iter tg:Expr}{ifs:List Expr}{cC:List Comprehension}{scope:Scope}{pos:Pos}{N':List Str}{fm:List (Option Nat)}{wi:TI}{g:TG}{tt:TT}{tb:Addr->gM}
theorem J9 {i:Nat}{x:Str}{px spos:Pos}(hc:X.calm=true)(hN:X.N.Nodup)(hx:X.N[i]? = some x)(hl:X.env.kindOf x=some .local)(S:jY X scope N' fm)(hi:PI X tg iter wi)(hg:∀ s H C fp,PG (cP X scope N' s H C fp) tg g)(ht:∀ s H C fp,iJ (cP X scope N' s H C fp) ifs tt)
  (hb:∀ s H C fp p,PB (cP X scope N' s H C fp) (nO elt (⟨tg,iter,ifs,0⟩ :: cC) scope pos 0 (.ref p) (cP X scope N' s H C fp).env) (tb p))
  (h3:∀ g,cC[0]? = some g->g.is_async=0:=by intro g h; first | (cases h; rfl) | cases h)
  (hs:∀ x,foldedSetIterable iter X.env x=pure x:=by intro _; rfl)
  (hsw:swapsWith (.ListComp elt (⟨tg,iter,ifs,0⟩ :: cC) scope pos) (some (.Name x px)) spos.line X.env=pure true:=by rfl) :
  PS X (.Assign [.Name x px] (.ListComp elt (⟨tg,iter,ifs,0⟩ :: cC) scope pos) spos) (Ik fm wi g tt tb i):=by
 intro pins s σ H D I h
 rw[exec_Assign_Name_used _ _ _ _ hsw]
 refine aE (jA (aE ?_))
 show wpAny _ _ (comprehension (.ListComp elt (⟨tg,iter,ifs,0⟩ :: cC) scope pos) scope X.env _ (newList []) false (eval iter X.env) (some (assign (.Name x px) X.env)) >>= _) _ _ s
 refine aE (aZ (tS (use:=some (assign (.Name x px) X.env)) (Q:=λ_ s'=>SP X pins D .next s') rfl hs (rY (S.cells I)) S.kind S.names
  (aZ (hi pins s σ H _ I h) λv s1 h1=>aZ h1 λitv s2 h2=>?_)) λ_ s' q=>aa (aa q))
 obtain⟨it,fp,tn,J,H2,e,I2,T,st2,f2,blk⟩:=h2
 subst e
 refine DX (RR:=λacc C=>compPost (model X.prog X.w) X.A X.xe (some (assign (.Name x px) X.env)) (λ_ s'=>SP X pins D .next s') acc C) (Q:=λp H'=>D.nx (σ.set i (some (.ref p))) H') hc S hg ht hb (λit acc env=>wj (cl:=⟨tg,iter,ifs,0⟩) (gens:=⟨tg,iter,ifs,0⟩ :: cC) (d:=0) rfl rfl (λg h=>h3 g (by simpa using h)) it acc env) T I2 st2 f2 blk ?_
 intro p C H' s' m hm back fC q I'
 obtain⟨f0,f1,f2,f3,f4,f5⟩:=fC
 show wpAny _ _ (assign (.Name x px) X.env (.ref p)) _ _ s'
 refine wpAny_assign_Name (tm I' hN hx (.inl hl) (v:=.ref p) rfl (λs'' I'' ⟨a,sb,ha⟩=>?_) (.inr hl))
 have haC:C≠a:=by
  rcases ha with z | z
  ·rw[z]; exact f1
  ·exact fB (f4 x a z)
 refine⟨m,hm.sameBut sb haC,λh3 sb3=>⟨σ.set i (some (.ref p)),H',I''.turned (t':=s''.toks) (λb o hb e=>(sb3.2 b hb).trans e) f0 f1 f3 f4 f5,q⟩⟩
end
theorem yB {α β:Type}{f g:α->Option β}:∀{l:List α},(∀ a∈l,f a=g a)->l.filterMap f=l.filterMap g
 | [],_=>rfl
 | a :: r,h=>by rw[tK,tK,h a eJ,yB λb hb=>h b (dy _ hb)]
def cV (rs:List Str)(q:Nat):Bool:=decide (0 < aT rs q 110 q 110) && decide (0 < aT rs q 121 q 121)
def cq (rs:List Str)(q r:Nat):Bool:=decide (aT rs q 110 r 121=0) && decide (aT rs q 121 r 110=0)
def cz (rs:List Str)(q r:Nat):Bool:=decide (aT rs q 110 r 110=0) && decide (aT rs q 121 r 121=0)
def dj (rs:List Str)(q r:Nat):Option Nat:=if cq rs q r=true then some 121 else if cz rs q r=true then some 110 else none
def bA (rs:List Str)(q r:Nat):Bool:=cq rs q r || cz rs q r
def cg (rs:List Str)(l r:Nat):Option (Nat×Nat):=(dj rs l r).map λa=>(r,a)
def bq (rs:List Str)(n l:Nat):List (Nat×Nat):=(List.range n).filterMap (cg rs l)
def dh (rs:List Str)(l:Nat):Bool:=cV rs l && (List.range l).all λq=>!bA rs q l
def aR (rs:List Str)(n:Nat):List Nat:=(List.range n).filter (dh rs)
def cD (rs:List Str)(n:Nat):List (List (Nat×Nat)):=(aR rs n).map (bq rs n)
theorem m5 {rs:List Str}{q a r b:Nat}:aT rs q a r b=0↔∀ x∈rs,¬ (ch x q=a/\ch x r=b):=by
 constructor
 ·intro h x hx e
  have:=bn.mpr ⟨x,hx,e⟩
  omega
 ·intro h
  refine Nat.eq_zero_of_not_pos λw=>?_
  obtain⟨x,hx,e⟩:=bn.mp w
  exact h x hx e
section
variable {rs:List Str}{n:Nat}(hrs:∀ x∈rs,Row n x)
include hrs
theorem yc {q r:Nat}(hq:q < n)(hr:r < n):cq rs q r=true↔∀ x∈rs,ch x q=ch x r:=by
 unfold cq
 rw[gE,dX,dX,m5,m5]
 constructor
 ·rintro⟨h1,h2⟩ x hx
  have b1:=(hrs x hx).bin q hq
  have b2:=(hrs x hx).bin r hr
  have h1:=h1 x hx
  have h2:=h2 x hx
  omega
 ·intro h
  refine⟨λx hx e=>?_,λx hx e=>?_⟩ <;> have:=h x hx <;> omega
theorem EJ {q r:Nat}(hq:q < n)(hr:r < n):cz rs q r=true↔∀ x∈rs,¬ ch x q=ch x r:=by
 unfold cz
 rw[gE,dX,dX,m5,m5]
 constructor
 ·rintro⟨h1,h2⟩ x hx
  have b1:=(hrs x hx).bin q hq
  have b2:=(hrs x hx).bin r hr
  have h1:=h1 x hx
  have h2:=h2 x hx
  omega
 ·intro h
  refine⟨λx hx e=>?_,λx hx e=>?_⟩ <;> have:=h x hx <;> omega
theorem jB {q r:Nat}(hq:q < n)(hr:r < n):bA rs q r=true↔(∀ x∈rs,ch x q=ch x r)∨∀ x∈rs,¬ ch x q=ch x r:=by
 unfold bA
 rw[wY,yc hrs hq hr,EJ hrs hq hr]
theorem tj {q:Nat}(hq:q < n):bA rs q q=true:=(jB hrs hq hq).mpr (.inl λ_ _=>rfl)
theorem mU {q r:Nat}(hq:q < n)(hr:r < n)(h:bA rs q r=true):bA rs r q=true:=by
 rw[jB hrs hr hq]
 rcases(jB hrs hq hr).mp h with h | h
 ·exact .inl λx hx=>(h x hx).symm
 ·exact .inr λx hx e=>h x hx e.symm
theorem oH {q r s:Nat}(hq:q < n)(hr:r < n)(hs:s < n)(h:bA rs q r=true)(h':bA rs r s=true):bA rs q s=true:=by
 rw[jB hrs hq hs]
 rcases(jB hrs hq hr).mp h with h | h <;> rcases(jB hrs hr hs).mp h' with h' | h'
 ·exact .inl λx hx=>(h x hx).trans (h' x hx)
 ·exact .inr λx hx e=>h' x hx ((h x hx).symm.trans e)
 ·exact .inr λx hx e=>h x hx (e.trans (h' x hx).symm)
 ·refine .inl λx hx=>?_
  have b1:=(hrs x hx).bin q hq
  have b2:=(hrs x hx).bin r hr
  have b3:=(hrs x hx).bin s hs
  have h1:=h x hx
  have h2:=h' x hx
  omega
omit hrs in
theorem r6 {q:Nat}:cV rs q=true↔(∃ x∈rs,ch x q=110)/\∃ x∈rs,ch x q=121:=by
 unfold cV
 rw[gE,dX,dX,bn,bn]
 constructor
 ·rintro⟨⟨x,hx,e,_⟩,y,hy,e',_⟩
  exact⟨⟨x,hx,e⟩,y,hy,e'⟩
 ·rintro⟨⟨x,hx,e⟩,y,hy,e'⟩
  exact⟨⟨x,hx,e,e⟩,y,hy,e',e'⟩
theorem qG {q r:Nat}(hq:q < n)(hr:r < n)(h:bA rs q r=true)(ho:cV rs q=true):cV rs r=true:=by
 obtain⟨⟨x,hx,e⟩,y,hy,e'⟩:=r6.mp ho
 have bx:=(hrs x hx).bin r hr
 have bY:=(hrs y hy).bin r hr
 rw[r6]
 rcases(jB hrs hq hr).mp h with h | h
 ·have h1:=h x hx
  have h2:=h y hy
  exact⟨⟨x,hx,by omega⟩,y,hy,by omega⟩
 ·have h1:=h x hx
  have h2:=h y hy
  exact⟨⟨y,hy,by omega⟩,x,hx,by omega⟩
omit hrs in
theorem m9 {q r:Nat}:dj rs q r=none↔bA rs q r=false:=by
 unfold dj bA
 cases cq rs q r <;> cases cz rs q r <;> simp
omit hrs in
theorem m3 {l:Nat}:dh rs l=true↔cV rs l=true/\∀ q,q < l->bA rs q l=false:=by
 unfold dh
 rw[gE,jU]
 constructor
 ·rintro⟨h1,h2⟩
  exact⟨h1,λq hq=>by simpa using h2 q (bK.mpr hq)⟩
 ·rintro⟨h1,h2⟩
  exact⟨h1,λq hq=>by simpa using h2 q (bK.mp hq)⟩
theorem xv:∀(q:Nat),q < n->cV rs q=true->∃ l,l<=q/\dh rs l=true/\bA rs l q=true:=by
 intro q
 induction q using Nat.strongRecOn with
 | ind q ih =>
  intro hq ho
  by_cases h:∃ r,r < q/\bA rs r q=true
  ·obtain⟨r,rq,tr⟩:=h
   have hr:r < n:=wT rq hq
   obtain⟨l,l1,l2,l3⟩:=ih r rq hr (qG hrs hq hr (mU hrs hr hq tr) ho)
   exact⟨l,by omega,l2,oH hrs (by omega) hr hq l3 tr⟩
  ·refine⟨q,aY _,m3.mpr ⟨ho,λr hr=>?_⟩,tj hrs hq⟩
   exact pc.mpr λw=>h ⟨r,hr,w⟩
theorem CI {i:Nat}(hi:i < n):dh rs i=true↔cV rs i=true/\¬ ∃ l,l < i/\dh rs l=true/\bA rs l i=true:=by
 constructor
 ·intro h
  obtain⟨h1,h2⟩:=m3.mp h
  refine⟨h1,λ⟨l,l1,_,l3⟩=>?_⟩
  rw[h2 l l1] at l3
  cases l3
 ·rintro⟨h1,h2⟩
  obtain⟨l,l1,l2,l3⟩:=xv hrs i hi h1
  by_cases e:l=i
  ·rw[<- e]; exact l2
  ·exact absurd ⟨l,by omega,l2,l3⟩ h2
def bV (rs:List Str)(n k:Nat):List Nat:=(List.range n).filter λr=>cV rs r && (List.range k).all λl=>!bA rs l r
omit hrs in
theorem rH {k r:Nat}:r∈bV rs n k↔r < n/\cV rs r=true/\∀ l,l < k->bA rs l r=false:=by
 unfold bV
 rw[cY,bK,gE,jU]
 constructor
 ·rintro⟨h0,h1,h2⟩
  exact⟨h0,h1,λq hq=>by simpa using h2 q (bK.mpr hq)⟩
 ·rintro⟨h0,h1,h2⟩
  exact⟨h0,h1,λq hq=>by simpa using h2 q (bK.mp hq)⟩
omit hrs in
theorem LN (k:Nat):(bV rs n k).Pairwise (· < ·):=List.Pairwise.filter _ List.pairwise_lt_range
omit hrs in
theorem iU (rs:List Str)(n:Nat):(aR rs n).length<=n:=by
 have:=gT (dh rs) (List.range n)
 rw[dk] at this
 exact this
omit hrs in
theorem yS (rs:List Str)(n l:Nat):(bq rs n l).length<=n:=by
 have:=List.length_filterMap_le (cg rs l) (List.range n)
 rw[dk] at this
 exact this
omit hrs in
theorem vh (rs:List Str)(n:Nat):aR rs (n + 1)=aR rs n ++ (if dh rs n=true then [n] else []):=by
 unfold aR
 rw[mH,pT]
 congr 1
 cases h:dh rs n <;> simp[h]
omit hrs in
theorem CH {k:Nat}:∀{m:Nat},k<=m->(∀ q,k<=q->q < m->dh rs q=false)->aR rs m=aR rs k:=by
 intro m
 induction m with
 | zero =>
  intro h _
  have e:k=0:=by omega
  rw[e]
 | succ m ih =>
  intro h f
  by_cases e:k=m + 1
  ·rw[e]
  ·rw[vh,f m (by omega) (by omega),ih (by omega) λq a b=>f q a (by omega)]
   simp
theorem CV {k q:Nat}(hq:q < n)(kq:k<=q)(h:dh rs q=true):q∈bV rs n k:=by
 obtain⟨h1,h2⟩:=m3.mp h
 exact rH.mpr ⟨hq,h1,λl hl=>h2 l (by omega)⟩
theorem LP {k:Nat}(hk:k<=n)(h:bV rs n k=[]):aR rs n=aR rs k:=by
 refine CH hk λq a b=>pc.mpr λw=>?_
 have:=CV hrs b a w
 rw[h] at this
 cases this
theorem LO {k low:Nat}{cC:List Nat}(hk:k<=n)(h:bV rs n k=low :: cC) :
  low < n/\k<=low/\dh rs low=true/\aR rs (low + 1)=aR rs k ++ [low]/\(bV rs n k).filter (λq=>!cq rs low q && !cz rs low q)=bV rs n (low + 1) /\
  (bV rs n k).filterMap (cg rs low)=bq rs n low:=by
 have hm:low∈bV rs n k:=by rw[h]; exact eJ
 obtain⟨ln,lo,lf⟩:=rH.mp hm
 have least:∀ q,q∈bV rs n k->low<=q:=λq hq=>by
  have s:=LN (rs:=rs) (n:=n) k
  rw[h] at s hq
  rcases bh.mp hq with e | hq
  ·omega
  ·exact Nat.le_of_lt ((List.pairwise_cons.mp s).1 q hq)
 have kl:k<=low:=by
  refine Nat.le_of_not_lt λw=>?_
  have:=lf low w
  rw[tj hrs ln] at this
  cases this
 have up:∀ q,q < n->cV rs q=true->q < low->∃ l,l < k/\bA rs l q=true:=λq hq ho ql=>by
  refine o8 λw=>?_
  have:=least q (rH.mpr ⟨hq,ho,λl hl=>pc.mpr λz=>w ⟨l,hl,z⟩⟩)
  omega
 have ll:dh rs low=true:=by
  refine m3.mpr ⟨lo,λq hq=>pc.mpr λw=>?_⟩
  have qn:q < n:=by omega
  obtain⟨l,l1,l2⟩:=up q qn (qG hrs ln qn (mU hrs qn ln w) lo) hq
  have:=lf l l1
  rw[oH hrs (by omega) qn ln l2 w] at this
  cases this
 refine⟨ln,kl,ll,?_,?_,?_⟩
 ·rw[vh,ll,aP rfl,CH kl λq a b=>pc.mpr λw=>?_]
  have:=least q (CV hrs (by omega) a w)
  omega
 ·unfold bV
  rw[List.filter_filter]
  refine List.filter_congr λr hr=>?_
  have rn:=bK.mp hr
  rw[i6]
  have e:(!cq rs low r && !cz rs low r) = !bA rs low r:=by unfold bA; cases cq rs low r <;> cases cz rs low r <;> rfl
  rw[e,gE,gE,gE,jU,jU]
  constructor
  ·rintro⟨h1,h2,h3⟩
   refine⟨h2,λl hl=>?_⟩
   have hl:=bK.mp hl
   by_cases e1:l < k
   ·exact h3 l (bK.mpr e1)
   by_cases e2:l=low
   ·rw[e2]; exact h1
   have lN:l < n:=by omega
   cases z:bA rs l r with
   | false=>rfl
   | true =>
    obtain⟨l',a,b⟩:=up l lN (qG hrs rn lN (mU hrs lN rn z) h2) (by omega)
    have:=h3 l' (bK.mpr a)
    rw[oH hrs (by omega) lN rn b z] at this
    cases this
  ·rintro⟨h1,h2⟩
   exact⟨h2 low (bK.mpr (nu _)),h1,λl hl=>h2 l (bK.mpr (by have:=bK.mp hl; omega))⟩
 ·unfold bV bq
  rw[List.filterMap_filter]
  refine yB λr hr=>?_
  have rn:=bK.mp hr
  cases z:(cV rs r && (List.range k).all λl=>!bA rs l r) with
  | true=>rfl
  | false =>
   show none=cg rs low r
   unfold cg
   cases t:dj rs low r with
   | none=>rfl
   | some a =>
    exfalso
    have tg:bA rs low r=true:=by
     cases y:bA rs low r with
     | true=>rfl
     | false=>rw[m9.mpr y] at t; cases t
    have ro:=qG hrs ln rn tg lo
    rw[ro,Bool.true_and,Bool.eq_false_iff] at z
    refine z (List.all_eq_true.mpr λl hl=>?_)
    have hl:=bK.mp hl
    cases y:bA rs l r with
    | false=>rfl
    | true =>
     have:=lf l hl
     rw[oH hrs (by omega) rn ln y (mU hrs ln rn tg)] at this
     cases this
theorem EN {q:Nat}(hq:q < n):cq rs q q=true:=(yc hrs hq hq).mpr λ_ _=>rfl
theorem E6 {l:Nat}(hl:l < n)(h:dh rs l=true):bq rs n l=(List.range (n - l)).filterMap λd=>cg rs l (l + d):=by
 unfold bq
 have e:List.range n=List.range l ++ (List.range (n - l)).map (l + ·):=by rw[<- List.range_add]; congr 1; omega
 rw[e,List.filterMap_append,List.filterMap_map]
 have z:(List.range l).filterMap (cg rs l)=[]:=by
  refine List.filterMap_eq_nil_iff.mpr λr hr=>?_
  have rl:=bK.mp hr
  unfold cg
  have t:bA rs l r=false:=pc.mpr λw=>by
   have:=(m3.mp h).2 r rl
   rw[mU hrs hl (by omega) w] at this
   cases this
  rw[m9.mpr t]
  rfl
 rw[z,List.nil_append]
 rfl
theorem yT {l:Nat}(hl:l < n)(h:dh rs l=true):∃ tl,bq rs n l=(l,121) :: tl:=by
 rw[E6 hrs hl h]
 have e:List.range (n - l)=0 :: (List.range (n - l - 1)).map Nat.succ:=by
  rw[show n - l=(n - l - 1) + 1 by omega,List.range_succ_eq_map]
  rfl
 rw[e,tK]
 have:cg rs l (l + 0)=some (l,121):=by
  unfold cg dj
  rw[Nat.add_zero,aP (EN hrs hl)]
  rfl
 rw[this]
 exact⟨_,rfl⟩
omit hrs in
theorem nJ {l r a:Nat}(h:(r,a)∈bq rs n l):r < n/\dj rs l r=some a:=by
 obtain⟨q,hq,e⟩:=List.mem_filterMap.mp h
 unfold cg at e
 cases z:dj rs l q with
 | none=>rw[z] at e; cases e
 | some b =>
  rw[z] at e
  cases e
  exact⟨bK.mp hq,z⟩
omit hrs in
theorem xn {l r a:Nat}(hr:r < n)(h:dj rs l r=some a):(r,a)∈bq rs n l:=by
 refine List.mem_filterMap.mpr ⟨r,bK.mpr hr,?_⟩
 unfold cg
 rw[h]
 rfl
end
end L2
namespace PySem
open Sem (wp)
theorem MU:typeLookup (.type "list") "keys" = pure none:=am_miss_of_fast (by kernel_rfl)
theorem M8 {prog:Program}{w:World}{A:Around}{E:Value->Shared->Prop}{s:Shared}{a:Addr}{o:Obj}{xs:Array Value}{k:Nat}{name:Str}{Q:Option Value->Shared->Prop}
  (hx:s.heap.get? a=some o) (hc:o.cls=.type "list") (hdat:o.data=.seq xs k) (hd:o.dict=none) (hmiss:typeLookup (.type "list") name=pure none) (hname:(["__module__", "__name__", "__qualname__", "__doc__", "__annotations__"]:List Str).contains name=false) (hA:A.handled=none)
  (h:∀ h' tk e,Heap.NewExcOf s.heap h' e "AttributeError" -> Q none { s with heap:=h',toks:=tk }) (hsz:name.length + 100<=sizeLine:=by size_fits) :
  wpAny (model prog w) A (getAttr? (.ref a) name) Q E s:=by
 obtain⟨c,dct,dat,sl⟩:=o
 simp only at hc hdat hd
 subst hc hdat hd
 obtain⟨hp,g,d,tk,os⟩:=s
 have hT:∀ tk',(⟨hp,g,d,tk',os⟩:Shared).TypeIs (.ref a) "list" := λ_=>⟨_,hx,rfl⟩
 have f1:=sub_AttributeError
 have f3:=F.slot_list_getattribute.lookup
 have f4:=F.slot_list_getattribute.bind (.ref a)
 have f5:=am_list_getattr_none
 unfold getAttr? getAttrBy? getAttrBy
 repeat (any_goals (first | assumption | exact hT _ | ((with_reducible show wpAny _ _ (call (Value.builtin "list.__getattribute__") _ _) _ _ _); refine call_meets F.slot_list_getattribute (hT _) am_entry_list_getattribute (F.args_list_getattribute_2 _ _) (meets_getattribute_miss_list a xs k sl name _ hmiss hname hsz) ⟨hx,hA,λh' tk' e hx'=>?_⟩) | wp_step))
 obtain⟨t',u',he⟩:=hx'.there
 show wpAny _ _ (getattributeRaised _ _ _ _ _ _ _) _ _ _
 unfold getattributeRaised
 repeat (any_goals (first | assumption | wp_step))
 exact h _ _ _ hx'.of
theorem DE:entryFor table "dict.update.loop" = some Builtin.«dict.update.loop» := entryFor_of_tree (by kernel_rfl)
theorem vI:plainId "dict.update.loop" = true:=by trivial
section
variable {prog:Program}{w:World}{K:Type} [DecidableEq K] {knd:KeyKind prog w K}{A:Around}{R:Result->Shared->Prop}{I:Addr}{fp wr:List Addr}{G:Array GenState->Array GenState->Prop}{n:Nat}{P:Nat->Value->Prop}{St:Nat->Shared->Prop}
theorem N1 (W:WalksS prog w A.in1 I fp wr G n P St){D:Addr}(hDf:D∉fp){h0:Heap}{kvs more:List (K×Value)}(hn:more.length=n)(hsz:kvs.length + more.length<=sizeLine)
  (hitem:∀ i v,P i v->∃ r o k key val m,v=.ref r/\r≠D/\r∉wr/\h0.get? r=some o/\o.cls=.type "tuple" /\ o.data=.seq #[key,val] m/\more[i]? = some (k,val)/\knd.is k key=true) :
  ∀(k i:Nat) (s:Shared),n - i=k->i<=n->St i s->s.heap.DictOf knd D (merged kvs (more.take i))->(∀ b o,b≠D->b∉wr->h0.get? b=some o->s.heap.get? b=some o) ->
  (∀ s',Moved (D :: wr) G s s'->s'.heap.DictOf knd D (merged kvs more)->R (.ok (.ret .none)) s')->codeAny (model prog w) A (.builtin "dict.update.loop" ⟨[.ref D,.ref I,rawInt i,.none],[]⟩) R s:=by
 have hDw:D∉wr:=λh=>hDf (W.sub _ h)
 have hsub:∀ b∈wr,b∈D :: wr:=λb hb=>dy _ hb
 intro k
 induction k with
 | zero =>
  intro i s hk hi hst hD keep hR
  have hin:i=n:=by omega
  subst hin
  refine codeAny_builtin DE ?_
  rw[Around.under_plainId vI _]
  show wpAny _ A.in1 (pyNext (.ref I) >>= _) _ _ s
  refine aE (W.done s _ _ hst λs' hm=>?_)
  show wpAny _ A.in1 (Builtin.Dict.addKeywords D [] >>= _) _ _ s'
  refine aE (aa (aa (hR s' (hm.mono hsub) ?_)))
  rw[<- hn,cW] at hD
  obtain⟨o,es,ep,ho,cC⟩:=hD
  exact⟨o,es,ep,hm.heap D _ hDw ho,cC⟩
 | succ k ih =>
  intro i s hk hi hst hD keep hR
  have hlt:i < n:=by omega
  refine codeAny_builtin DE ?_
  rw[Around.under_plainId vI _]
  show wpAny _ A.in1 (pyNext (.ref I) >>= _) _ _ s
  refine aE (W.item i s _ _ hlt hst λv s' hP hst' hm=>?_)
  obtain⟨r,o,k',key,val,m,rfl,rD,rw',hr,hc,hd,hmore,hkey⟩:=hitem i v hP
  have hr':=hm.heap r _ rw' (keep r o rD rw' hr)
  have hD':s'.heap.DictOf knd D (merged kvs (more.take i)):=by
   obtain⟨o,es,ep,ho,cC⟩:=hD
   exact⟨o,es,ep,hm.heap D _ hDw ho,cC⟩
  show wpAny _ A.in1 (holding [Value.ref r] _ >>= _) _ _ s'
  refine aE (pj ?_)
  refine aE (wpAny_tryCatch ?_)
  unfold Builtin.Dict.pairItems
  refine aE (wpAny_typeOf ⟨o,hr',hc⟩ ?_)
  rw[aP (by decide)]
  refine aE (jc hr' hd (aa ?_))
  show wpAny _ A.in1 (holding [key,val] (dictSet D key val)) _ _ s'
  have hmx:(merged kvs (more.take i)).length<=sizeLine:=by
   have e1:=merged_length_le kvs (more.take i)
   have e2:(more.take i).length<=more.length:=by rw[cZ]; omega
   omega
  refine pj (wpAny_dictSet_pairs (hsz:=hmx) hkey hD' λh' hD2 hs=>?_)
  rw[<- merged_take_succ kvs more i (k',val) hmore] at hD2
  refine aa ⟨plainId_quiet vI _,?_⟩
  show codeAny (model prog w) A (.builtin "dict.update.loop" ⟨[.ref D,.ref I,rawInt ((i:Int) + 1),.none],[]⟩) R _
  have ei:((i:Int) + 1)=((i + 1:Nat):Int):=by omega
  rw[ei]
  refine ih (i + 1) _ (by omega) hlt (W.frame _ s' _ _ hst' (gB _) λb hb o e=>?_) hD2 (λb o bD bw e=>?_) λs'' hm'' hD3=>?_
  ·rw[hs.2 b (λh:b=D=>hDf (by rw[<- h]; exact hb))]; exact e
  ·show h'.get? b=some o
   rw[hs.2 b bD]
   exact hm.heap b o bw (keep b o bD bw e)
  ·refine hR s'' (Moved.trans W.gtrans ((hm.mono hsub).then_heap (gB _) λb o hb e=>?_) hm'') hD3
   rw[hs.2 b (λh:b=D=>hb (by rw[h]; exact eJ))]; exact e
end
section
variable {prog:Program}{w:World}{K:Type} [DecidableEq K] {knd:KeyKind prog w K}{A:Around}{E:Value->Shared->Prop}{s:Shared}
theorem NE {l:Addr}{items:Array Value}{more:List (K×Value)}{Q:Value->Shared->Prop}(hh:A.handled=none)(hl:s.heap.IsList l items)(hnd:∀ o,s.heap.get? l=some o->o.dict=none)(hn:more.length=items.size)(hsz:more.length<=sizeLine)
  (hitem:∀(i:Nat) (v:Value),items[i]? = some v->∃ r o k key val m,v=.ref r/\s.heap.get? r=some o/\o.cls=.type "tuple" /\ o.data=.seq #[key,val] m/\more[i]? = some (k,val)/\knd.is k key=true)
  (h:∀ h' tk,h'.DictOf knd s.heap.objs.size (merged [] more)->(∀ b o,s.heap.get? b=some o->h'.get? b=some o)->Q (.ref s.heap.objs.size) { s with heap:=h',toks:=tk }) :
  wpAny (model prog w) A (call (.type "dict") [Value.ref l]) Q E s:=by
 refine callType_codes (Q₁:=λobj s₁=>obj=Value.ref s.heap.objs.size/\s₁={ s with heap:=s.heap.push { cls:=.type "dict",data:=.dict #[] } }) F.kt_called_dict (F.kt_typeCall_dict_1 _) F.entry_dict_init (kt_code_dict_new _ ⟨rfl,rfl⟩) ?_
 rintro obj s₁ ⟨rfl,rfl⟩
 have hnew:(s.heap.push { cls:=.type "dict",data:=.dict #[] }).DictOf knd s.heap.objs.size []:=Heap.DictOf.new s.heap
 have hl1:(s.heap.push { cls:=.type "dict",data:=.dict #[] }).IsList l items:=hl.push _
 refine⟨hnew.typeIs,F.args_dict_init_2 _ _,?_⟩
 unfold Builtin.«dict.__init__»
 refine aE ?_
 unfold Builtin.Dict.selfAndRest
 refine aE (wpAny_notOrdered_dict hnew.typeIs ?_)
 show wpAny _ _ (pure (s.heap.objs.size,[Value.ref l])) _ _ _
 refine aa ?_
 show wpAny _ _ (Builtin.Dict.updateFrom "dict.__init__" s.heap.objs.size (.ref l) [] .none) _ _ _
 unfold Builtin.Dict.updateFrom
 obtain⟨ol,hol,hcl,nl,hdl⟩:=hl1
 refine aE (wpAny_typeOf ⟨ol,hol,hcl⟩ ?_)
 rw[aP (by decide)]
 have hsz0:l < s.heap.objs.size:=by obtain⟨o,ho,_⟩:=hl; exact bU ho
 have hdn:ol.dict=none:=by
  obtain⟨o,ho,_⟩:=hl
  have:=(bj { cls:=.type "dict",data:=.dict #[] } ho).symm.trans hol
  cases this
  exact hnd _ ho
 refine aE (M8 hol hcl hdl hdn MU (by decide) (by simp[hh]) λh1 tk1 e1 ne=>?_)
 have kp:∀ b o,s.heap.get? b=some o->h1.get? b=some o:=λb o e=>ne.keeps b o (bj _ e)
 show wpAny _ _ (rule _ >>= _) _ _ _
 refine aE (wpAny_rule ?_)
 have hl2:h1.IsList l items:=⟨ol,ne.keeps _ _ hol,hcl,nl,hdl⟩
 refine aE (wpAny_pyIter_list (s:={ s with heap:=h1,toks:=tk1 }) hl2 ?_)
 refine aa ⟨plainId_quiet vI _,?_⟩
 have hd1:h1.DictOf knd s.heap.objs.size []:=by
  obtain⟨o,es,ep,ho,cC⟩:=hnew
  exact⟨o,es,ep,ne.keeps _ _ ho,cC⟩
 have lt1:l < h1.objs.size:=bU (ne.keeps _ _ hol)
 have Dlt:s.heap.objs.size < h1.objs.size:=by obtain⟨o,es,ep,ho,_⟩:=hd1; exact bU ho
 have hneI:l≠h1.objs.size:=cQ lt1
 have hDf:s.heap.objs.size∉[h1.objs.size,l]:=by
  simp only[bh,bH,kr,kO,not_or]
  exact⟨cQ Dlt,Nat.ne_of_gt hsz0⟩
 have hh3:A.in1.in1.handled=none:=by simp[hh]
 refine N1 (knd:=knd) (A:=A.in1) ((Walks.list hh3 h1.objs.size l hneI items).toS) (D:=s.heap.objs.size) hDf (h0:=s.heap) (kvs:=[]) (more:=more) hn (by simpa using hsz) (λi v hv=>?_) (items.size - 0) 0 _ rfl (bX _) ⟨⟨_,fD _ rfl,rfl,rfl⟩,hl2.push _⟩ ?_ (λb o _ _ e=>bj _ (kp b o e)) λs' hm hD=>?_
 ·obtain⟨r,o,k,key,val,m,e1,e2,e3,e4,e5,e6⟩:=hitem i v (by simpa using hv)
  have rl:=bU e2
  exact⟨r,o,k,key,val,m,e1,cQ rl,λz=>absurd (bH.mp z) (cQ (wT rl Dlt)),e2,e3,e4,e5,e6⟩
 ·obtain⟨o,es,ep,ho,cC⟩:=hd1
  exact⟨o,es,ep,bj _ ho,cC⟩
 ·obtain⟨h',g',d',tk',os'⟩:=s'
  have eg:g'=s.gens:=hm.gens
  have ed:d'=s.drawn:=hm.drawn
  have eo:os'=s.os:=hm.os
  subst eg; subst ed; subst eo
  refine⟨rfl,h h' tk' hD λb o e=>?_⟩
  have bl:=bU e
  refine hm.heap b o ?_ (bj _ (kp b o e))
  simp only[bh,bH,kr,kO,not_or]
  exact⟨cQ bl,cQ (wT bl Dlt)⟩
end
end PySem
namespace L2
open PySem PySem.Spec PyProof.Rows
theorem rC:∀(more kvs:List (aQ×V)),(ir kvs more).length<=kvs.length + more.length
 | [],kvs=>aY _
 | p :: r,kvs=>by
  show(ir (dC kvs p.1 p.2) r).length<=_
  have h1:=rC r (dC kvs p.1 p.2)
  have h2:=p9 kvs p.1 p.2
  rw[dm]
  omega
def yj (H:Hp)(rs:List Addr)(kvs:List (aQ×V)):Prop:=rs.length=kvs.length/\∀(i:Nat) (r:Addr) (p:aQ×V),rs[i]? = some r->kvs[i]? = some p->H r=some (.tup [kV p.1,p.2])
theorem BF {P:Program}{w:World}{H:Hp}{h:Heap}(ok:cj P w H h):∀{rs:List Addr}{kvs:List (aQ×V)},yj H rs kvs->∃ vs:List (aQ×Value),KV kvs vs/\vs.length=rs.length /\
  ∀(i:Nat) (r:Addr),rs[i]? = some r->∃ o k key val m,h.get? r=some o/\o.cls=.type "tuple" /\ o.data=.seq #[key,val] m/\vs[i]? = some (k,val)/\(dg P w).is k key=true
 | [],[],_=>⟨[],.nil,rfl,λi r e=>by cases e⟩
 | [],_ :: _,q=>by cases q.1
 | _ :: _,[],q=>by cases q.1
 | r :: rs,p :: kvs,q=>by
  obtain⟨vs,kv,ln,f⟩:=BF ok (rs:=rs) (kvs:=kvs) ⟨Nat.succ.inj q.1,λi r p a b=>q.2 (i + 1) r p a b⟩
  have hr:=q.2 0 r p rfl rfl
  obtain⟨z,its,rv,o,ho,hc,m,hd⟩:=(show dL P w H h r (.tup [kV p.1,p.2]) from ok r _ hr)
  obtain⟨u,us,rfl,ru,rus⟩:∃ u us,its=u :: us/\RelV (kV p.1) u/\ai [p.2] us:=by
   cases rv with
   | cons a b=>exact⟨_,_,rfl,a,b⟩
  obtain⟨v,rfl,rv'⟩:=rus.one
  refine⟨(p.1,v) :: vs,.cons ⟨rfl,rv'⟩ kv,by rw[dm,dm,ln],λi r' e=>?_⟩
  cases i with
  | zero =>
   cases e
   exact⟨o,p.1,u,v,m,ho,hc,by simpa using hd,rfl,nC ru⟩
  | succ i =>
   obtain⟨o',k,key,val,m',e1,e2,e3,e4,e5⟩:=f i r' e
   exact⟨o',k,key,val,m',e1,e2,e3,e4,e5⟩
section
variable {X:Cx}
theorem zN:∀{rs:List Addr}{its:List Value},ai (rs.map V.ref) its->its=rs.map Value.ref
 | [],_,h=>by cases h; rfl
 | r :: rs,_,h=>by
  cases h with
  | cons a b =>
   rw[zN b]
   obtain rfl:_=Value.ref r:=a
   rfl
theorem NF (hc:X.calm=true):gZ X (.type "dict") (λxs H Q=>∃(a:Addr) (rs:List Addr) (kvs:List (aQ×V)),xs=[.ref a]/\aD X.K H a (rs.map V.ref)/\yj H rs kvs/\∀ p,H p=none->Q (.ref p) (upd H p (.dK (ir [] kvs)))):=by
 intro pins s σ H xs us Q I r h
 obtain⟨a,rs,kvs,rfl,hq,hp,q⟩:=h
 obtain⟨u,rfl,ru⟩:=r.one
 cases ru
 obtain⟨its,rv,p,hz⟩:=I.list hq
 have ei:=zN rv
 subst ei
 obtain⟨vs,kv,ln,f⟩:=BF I.hok hp
 have lk:kvs.length=rs.length:=hp.1.symm
 rw[aI] at hz
 have hh:X.A.handled=none:=I.ok.hd hc
 refine NE (knd:=dg X.prog X.w) (more:=vs) hh p.isList (λo e=>?_) (by rw[ln]; simp) (by rw[ln]; exact hz) (λi v hv=>?_) λh' tk dd kp=>?_
 ·obtain⟨o',n,e',_,d,_⟩:=p
  rw[e'] at e
  cases e
  exact d
 ·rw[List.getElem?_toArray,ar] at hv
  cases z:rs[i]? with
  | none=>rw[z] at hv; cases hv
  | some r' =>
   rw[z] at hv
   cases hv
   obtain⟨o,k,key,val,m,e1,e2,e3,e4,e5⟩:=f i r' z
   exact⟨r',o,k,key,val,m,rfl,e1,e2,e3,e4,e5⟩
 ·have rel:KV (ir [] kvs) (merged [] vs):=KV.merge kv (show KV [] [] from .nil)
  have len:=rC kvs []
  exact⟨.ref s.heap.objs.size,_,I.laid (a:=s.heap.objs.size) (o:=.dK (ir [] kvs)) (t':=tk) kp (aY _) (w6 (by simp at len; omega) (pH.mpr (fB (cQ I.big))) rel dd),rfl,q _ (I.hok.fresh (aY _))⟩
theorem L5:yo X "dict.update" (λx xs H Q=>∃(a b:Addr) (kvs more:List (aQ×V)),x=.ref a/\xs=[.ref b]/\H a=some (.dK kvs)/\H b=some (.dK more)/\a≠b/\kvs.length + more.length<=sizeLine/\Q .non (upd H a (.dK (ir kvs more)))):=by
 intro pins s σ H x xs v us Q I rx rv h
 obtain⟨a,b,kvs,more,rfl,rfl,ea,eb,nab,len,q⟩:=h
 cases rx
 obtain⟨u,rfl,ru⟩:=rv.one
 cases ru
 obtain⟨z,hd,vs,rel,dd⟩:=rW I.hok ea
 obtain⟨z2,hd2,ws,rel2,dd2⟩:=rW I.hok eb
 refine call_meetsIn PySem.F.slot_dict_update dd.typeIs PySem.F.entry_dict_update (PySem.F.args_dict_update_2 _ _) (meets_dict_update (dg X.prog X.w) a b nab hd2)
  ⟨vs,ws,dd,dd2,by rw[<- rel.length,<- rel2.length]; exact len,λh' dd' _ hs=>?_⟩
 have he:∃ q,h'.get? a=some q:=let ⟨q,_,_,hq,_⟩:=dd'; ⟨q,hq⟩
 exact⟨.non,_,wA I (by rw[ea]; exact True.intro) hs he (w6 (b8 (rC more kvs) len) hd (rel2.merge rel) dd'),rfl,q⟩
end
def pW (K:PySem.W.Frag)(a:Addr):It :=
 ⟨λi H=>∃ xs x,aD K H a xs/\xs[i]? = some x,λi H v H'=>∃ T x,v=.ref T/\H T=none/\H'=upd H T (.tup [.int i,x])/\∀ xs,aD K H a xs->xs[i]? = some x,λi H=>∃ xs,aD K H a xs/\xs.length<=i⟩
section
variable {P:Program}{w:World}{K:PySem.W.Frag}
def OY (e it a:Addr)(i:Nat)(h:Heap):Prop:=(∃ old,IsEnum h e it i old)/\h.IsListIter it a i
theorem FX {elts:List Expr}{k:Nat}{pos:Pos}(e it a:Addr)(hei:e≠it):i5 P w K (.Tuple elts k pos) (pW K a) [e,it] e (OY e it a) where
 mem:=by simp
 obj:=λi h st b hb=>by
  obtain⟨⟨old,he⟩,st⟩:=st
  rcases bh.mp hb with rfl | hb
  ·exact⟨_,he,λv q=>by cases q⟩
  ·rw[bH.mp hb]
   obtain⟨o,e,c,d⟩:=st
   exact⟨o,e,λv z=>by rw[d] at z; cases z⟩
 keep:=λi h h' st k=>by
  obtain⟨⟨old,he⟩,st⟩:=st
  exact⟨⟨old,k e (by simp) _ he⟩,st.at λo q=>k it (by simp) o q⟩
 item:=by
  intro X hP hw hK hc i pins s σ H E I hf st hg
  subst hP hw hK
  obtain⟨xs,x,hq,hx⟩:=hg
  obtain⟨its,rv,p,hz⟩:=I.list hq
  obtain⟨u,hu,ru⟩:=rv.get hx
  have nai:a≠it:=λz=>by
   obtain⟨o,n,e1,c1,_⟩:=p
   obtain⟨o2,e2,c2,_⟩:=st.2
   rw[z,e2] at e1
   cases e1
   rw[c2] at c1
   exact absurd c1 (by decide)
  have ah:e≠a:=λz=>by
   obtain⟨o,n,e1,c1,_⟩:=p
   obtain⟨old,e2⟩:=st.1
   rw[<- z,e2] at e1
   cases e1
   exact absurd (show Value.type "enumerate" = Value.type "list" from c1) (by decide)
  have W:=WalksT.enumerateD (A:=X.A) (Draws.list (prog:=X.prog) (w:=X.w) (A:=X.A.in1) (I.ok.hd hc) it a nai its.toArray) e hei (by simp[hei,ah]) (by simp)
  have il:i < its.toArray.size:=by simpa using(cE.mp hu).1
  refine W.item i s _ _ il ⟨st.1,st.2,p.isList⟩ λT vals h' tk hv hT hq' mid kp=>⟨_,rfl,?_⟩
  refine W.go elts k pos i T { s with heap:=h',toks:=tk } _ _ mid λh'' st' kp'=>?_
  obtain⟨t,y,hy,rfl⟩:=hv
  have ey:y=u:=by
   have:its[i]? = some y:=by simpa using hy
   rw[hu] at this
   cases this
   rfl
  subst ey
  have nT:T∉[e,it]:=W.apart i T h' mid
  have hq2:h''.IsTuple T #[Value.int (i:Int) t,y]:=by
   obtain⟨o,h1,r⟩:=hq'
   exact⟨o,kp' T o nT h1,r⟩
  have fr:H T=none:=I.hok.fresh hT
  have I1:Inv X pins σ (upd H T (.tup [.int i,x])) { s with heap:=h'',toks:=tk }:=by
   refine I.turnLaid (fp:=[e,it]) hf (λb o hb q=>kp' b o hb (kp b o hb q)) hT nT ?_
   exact⟨by show 2<=sizeLine; rw[fG]; omega,_,.cons ⟨t,rfl⟩ (.cons ru .nil),hq2⟩
  refine⟨.ref T,_,I1,rfl,⟨T,x,rfl,fr,rfl,λys hy=>by rw[I.list_inj hy hq]; exact hx⟩,⟨st'.1,st'.2.1⟩,λb hb=>?_⟩
  have nb:b≠T:=λq=>nT (q ▸ hb)
  rw[aj nb]
  exact(hf b hb).1
 done:=by
  intro X hP hw hK hc i pins s σ H E I hf st hg
  subst hP hw hK
  obtain⟨xs,hq,hx⟩:=hg
  obtain⟨its,rv,p,hz⟩:=I.list hq
  obtain⟨⟨old,he⟩,st⟩:=st
  have hl:=rv.length
  have hT:s.TypeIs (.ref e) "enumerate" := ⟨_,he,rfl⟩
  unfold pyNext
  refine aE (py (pk (name:=Str.ofString "__next__") hT F.slot_enumerate_next
   (lF F.slot_enumerate_next hT F.entry_enumerate_next ?_ (F.args_enumerate_next_1 _))))
  show wpAny _ _ (field (.ref e) 2 >>= _) _ _ _
  refine aE (iM he rfl (x:=.ref it) rfl ?_)
  refine aE (wpAny_nextOf_list_end (I.ok.hd hc) st p.isList (by simp; omega) λh' y he' hx'=>?_)
  obtain⟨o,ho,hcl⟩:=hx'
  refine aE (wpAny_isInstance (T := "StopIteration") (b:=true) ⟨o,ho,hcl⟩ isSubtype_stop ?_)
  exact aa ⟨rfl,I.turnedL (fp:=[e,it]) (t':=s.toks) hf λb o hb q=>he' b o (λz=>hb (by simp[z])) q⟩
 self:=λA i s Q E st h=>by
  obtain⟨⟨old,he⟩,_⟩:=st
  exact wpAny_pyIter_enum he h
end
section
variable {X:Cx}
def Cf (K:PySem.W.Frag)(ta:TA):TI:=λσ H R=>ta σ H λvs H1=>∃ a,vs=[.ref a]/\(∃ xs,aD K H1 a xs)/\R (pW K a) H1
theorem oa {elts:List Expr}{k:Nat}{tp:Pos}{a:Expr}{ta:TA}{p pos:Pos}(hg:Gl X "enumerate") (hm:X.mg "enumerate" = none) (ha:PA X [a] ta) (hs:starEach [a] X.env=[(false,eval a X.env)]:=by rfl) :
  PI X (.Tuple elts k tp) (.Call (.Name "enumerate" p) [a] [] pos) (Cf X.K ta):=by
 intro pins s σ H R I h
 refine Call_ (jx I hg hm boot_enumerate (pI (aZ (ha pos pins s σ H _ I h) λus s1 ⟨vs,H1,I1,r1,q1⟩=>?_) hs rfl))
 obtain⟨l,rfl,⟨xs,hq⟩,q⟩:=q1
 obtain⟨u,rfl,ru⟩:=r1.one
 cases ru
 obtain⟨its,rv,p',hz⟩:=I1.list hq
 refine call_enumerate_list p'.isList λh' he st hz kp=>wpAny_pyIter_enum (s:={ s1 with heap:=h' }) he ?_
 refine⟨_,[s1.heap.objs.size + 1,s1.heap.objs.size],_,_,H1,rfl,I1.kept (t':=s1.toks) kp,FX _ _ _ (Nat.succ_ne_self _),⟨⟨_,by simpa using he⟩,st⟩,λb hb=>?_,q⟩
 have hb':s1.heap.objs.size<=b:=by
  simp only[bh,kr,kO] at hb
  rcases hb with rfl | rfl
  ·exact gB _
  ·exact aY _
 exact I1.fpOk hb' (I1.hok.fresh hb')
end
section
variable {K:PySem.W.Frag}{a:Addr}{xs:List V}
theorem yA {g:TG}{tb:TS}{D:jW}{σ:St}{H:Hp}(Pv:Nat->St->Hp->Prop)(h0:Pv 0 σ H)(hl:∀ i σ H,i<=xs.length->Pv i σ H->aD K H a xs)
  (hs:∀ i x T σ H,xs[i]? = some x->H T=none->Pv i σ H->g (.ref T) σ (upd H T (.tup [.int i,x])) λσ2 H2=>tb { D with nx:=Pv (i + 1),ct:=Pv (i + 1),bk:=D.nx } σ2 H2) (hd:∀ σ H,Pv xs.length σ H->D.nx σ H) :
  ∃ W:Nat->Nat->St->Hp->Prop,(∃ m,W 0 m σ H)/\∀ i m σ H,W i m σ H ->
   ((pW K a).stop i H/\D.nx σ H)∨((pW K a).go i H/\∃ N:St->Hp->Prop,(∀ σ' H',N σ' H'->∃ m',m' < m/\W (i + 1) m' σ' H')/\∀ v H',(pW K a).yld i H v H'->g v σ H' λσ2 H2=>tb { D with nx:=N,ct:=N,bk:=D.nx } σ2 H2):=by
 refine⟨λi m σ H=>m=xs.length - i/\i<=xs.length/\Pv i σ H,⟨xs.length,by simp,bX _,h0⟩,?_⟩
 rintro i m σ H ⟨rfl,hi,p⟩
 have hq:=hl i σ H hi p
 by_cases hlt:i < xs.length
 ·refine .inr ⟨⟨xs,xs[i],hq,bZ hlt⟩,Pv (i + 1),λσ' H' p'=>⟨xs.length - (i + 1),by omega,rfl,hlt,p'⟩,λv H' y=>?_⟩
  obtain⟨T,x,rfl,hT,rfl,e⟩:=y
  exact hs i x T σ H (e xs hq) hT p
 ·have e:i=xs.length:=by omega
  subst e
  exact .inl ⟨⟨xs,hq,aY _⟩,hd σ H p⟩
theorem xu {g:TG}{tt:TT}{tb:gM}{σ0:St}{H0:Hp}{Q:St->Hp->Prop}(Pv:Nat->St->Hp->Prop)(h0:Pv 0 σ0 H0)(hl:∀ i σ H,i<=xs.length->Pv i σ H->aD K H a xs)
  (hs:∀ i x T σ H,xs[i]? = some x->H T=none->Pv i σ H->tM g tt tb (Pv (i + 1)) (.ref T) σ (upd H T (.tup [.int i,x]))) (hd:∀ σ H,Pv xs.length σ H->Q σ H) :
  lJ (pW K a) g tt tb σ0 H0 Q:=by
 refine⟨λi m σ H=>m=xs.length - i/\i<=xs.length/\Pv i σ H,⟨xs.length,by simp,bX _,h0⟩,?_⟩
 rintro i m σ H ⟨rfl,hi,r⟩
 have hq:=hl i σ H hi r
 by_cases hlt:i < xs.length
 ·refine .inr ⟨⟨xs,xs[i],hq,bZ hlt⟩,Pv (i + 1),λσ' H' r=>⟨xs.length - (i + 1),by omega,rfl,hlt,r⟩,λv H' y=>?_⟩
  obtain⟨T,x,rfl,hT,rfl,e⟩:=y
  exact hs i x T σ H (e xs hq) hT r
 ·have e:i=xs.length:=by omega
  subst e
  exact .inl ⟨⟨xs,hq,aY _⟩,hd σ H r⟩
end
open PySem
def iN (q:Nat):V:=.int (q:Nat)
def aV:Option Nat->V
 | some a=>s1 a
 | none=>.non
structure fF (H0:Hp) (p:Addr) (H:Hp) (bl:List (List (Nat×Nat))):Prop where
 same:aB H0 H
 fr:H0 p=none
 at_:∃ bs:List Addr,H p=some (.lst (bs.map V.ref))/\bs.length=bl.length/\(∀ b∈bs,b≠p/\H0 b=none)/\∀(i:Nat) (b:Addr) (ks:List (Nat×Nat)),bs[i]? = some b->bl[i]? = some ks->∃ as:List Addr,H b=some (.lst (as.map V.ref))/\cH H as (ks.map au)
theorem fF.mono {H0 H H1:Hp}{p:Addr}{bl:List (List (Nat×Nat))}(B:fF H0 p H bl)(s:aB H H1):fF H0 p H1 bl:=by
 obtain⟨bs,e,l,f,g⟩:=B.at_
 exact⟨B.same.trans' s,B.fr,bs,s _ _ e,l,f,λi b ks h1 h2=>let ⟨as,e1,t1⟩:=g i b ks h1 h2; ⟨as,s _ _ e1,t1.mono s⟩⟩
theorem fF.put {H0 H H1:Hp}{p b:Addr}{bl:List (List (Nat×Nat))}{ks:List (Nat×Nat)}(B:fF H0 p H bl)(hb:H b=none)(A:Acc H b H1 (ks.map au)) :
  ∃ bs:List Addr,H1 p=some (.lst (bs.map V.ref))/\bs.length=bl.length/\fF H0 p (upd H1 p (.lst (bs.map V.ref ++ [.ref b]))) (bl ++ [ks]):=by
 obtain⟨bs,e,l,f,g⟩:=B.at_
 have e1:=A.same _ _ e
 have bp:b≠p:=λz=>by rw[z,e] at hb; cases hb
 have b0:H0 b=none:=by
  cases z:H0 b with
  | none=>rfl
  | some o=>rw[B.same _ _ z] at hb; cases hb
 refine⟨bs,e1,l,λc o z=>?_,B.fr,bs ++ [b],by rw[aF,bQ]; rfl,by rw[cR,cR,l]; rfl,λc hc=>?_,λi c ks' h1 h2=>?_⟩
 ·rw[aj (λw=>by rw[w,B.fr] at z; cases z)]
  exact A.same _ _ (B.same _ _ z)
 ·rcases gQ.mp hc with hc | hc
  ·exact f c hc
  ·rw[bH.mp hc]; exact⟨bp,b0⟩
 ·by_cases il:i < bs.length
  ·rw[ky il] at h1
   rw[ky (by omega)] at h2
   obtain⟨as,e2,t2⟩:=g i c ks' h1 h2
   refine⟨as,?_,(t2.mono A.same).upd e1⟩
   rw[aj (f c (bI h1)).1]
   exact A.same _ _ e2
  ·have ie:i=bs.length:=by
    have:=(cE.mp h1).1
    rw[cR] at this
    have:[b].length=1:=rfl
    omega
   subst ie
   rw[ku (aY _),wS] at h1
   rw[l,ku (aY _),wS] at h2
   cases h1
   cases h2
   obtain⟨as,e2,t2⟩:=A.at_
   refine⟨as,?_,t2.upd e1⟩
   rw[aj bp]
   exact e2
theorem fF.offD {H0 H:Hp}{p pd:Addr}{bl:List (List (Nat×Nat))}{kvs kvs':List (aQ×V)}(B:fF H0 p H bl)(e0:H0 pd=none)(e:H pd=some (.dK kvs)):fF H0 p (upd H pd (.dK kvs')) bl:=by
 have ne:∀{q:Addr} {o:HO},H q=some o->(∀ c,o≠.dK c)->upd H pd (.dK kvs') q=some o:=λ{q o} h n=>by
  rw[aj (λz=>by rw[z,e] at h; cases h; exact n _ rfl)]
  exact h
 obtain⟨bs,e1,l,f,g⟩:=B.at_
 refine⟨λc o z=>?_,B.fr,bs,ne e1 (λ_ z=>by cases z),l,f,λi b ks h1 h2=>?_⟩
 ·rw[aj (λw=>by rw[w,e0] at z; cases z)]
  exact B.same _ _ z
 ·obtain⟨as,e2,t2⟩:=g i b ks h1 h2
  exact⟨as,ne e2 (λ_ z=>by cases z),t2.1,λi r k a b=>ne (t2.2 i r k a b) (λ_ z=>by cases z)⟩
def iG (ks:List (Nat×Nat)):Dt:=.lst ((ks.map au).map cn)
theorem fF.den {K:PySem.W.Frag}{H0 H:Hp}{p:Addr}{bl:List (List (Nat×Nat))}(B:fF H0 p H bl)(hl:bl.length<=600)(hk:∀ ks∈bl,ks.length<=600):cM K H (.ref p) (.lst (bl.map iG)):=by
 obtain⟨bs,e,l,f,g⟩:=B.at_
 refine .lst (aD.of e) (by rw[aI,aI,l]) (by rw[aI]; omega) λi u d hu hd=>?_
 rw[ar] at hu hd
 cases z:bs[i]? with
 | none=>rw[z] at hu; cases hu
 | some b =>
  cases y:bl[i]? with
  | none=>rw[y] at hd; cases hd
  | some ks =>
   rw[z] at hu; rw[y] at hd
   cases hu; cases hd
   obtain⟨as,e2,t2⟩:=g i b ks z y
   have:=hk ks (bI y)
   exact DI (aD.of e2) t2 (by rw[aI]; omega) λk h=>by
    obtain⟨q,_,rfl⟩:=cI.mp h
    exact(by decide:(2:Nat)<=5000)
theorem Cy:∀ bl:List (List (Nat×Nat)),Dt.eqb.eqbs (bl.map iG) (bl.map iG)=true
 | []=>rfl
 | k :: r=>by
  show((iG k).eqb (iG k) && Dt.eqb.eqbs (r.map iG) (r.map iG))=true
  rw[Cy r,mO]
  exact Cv _
theorem MO (bl:List (List (Nat×Nat))):(Dt.lst (bl.map iG)).eqb (.lst (bl.map iG))=true:=Cy bl
theorem DQ:∀ bl:List (List (Nat×Nat)),Dt.deep.deeps (bl.map iG)<=2
 | []=>bX _
 | k :: r=>by
  show max (1 + Dt.deep.deeps ((k.map au).map cn)) (Dt.deep.deeps (r.map iG))<=2
  have:=DQ r
  have:=yI (k.map au)
  omega
theorem Me (bl:List (List (Nat×Nat))):(Dt.lst (bl.map iG)).deep<=3:=by
 show 1 + Dt.deep.deeps (bl.map iG)<=3
 have:=DQ bl
 omega
theorem L9 {κ:Type}[DecidableEq κ]{kvs:List (κ×V)}{k k':κ}{v:V}:k'∈(dC kvs k v).map (·.1)↔k'∈kvs.map (·.1)∨k'=k:=by
 unfold dC
 split
 ·rename_i h
  have e:(kvs.map λkv=>if kv.1=k then (kv.1,v) else kv).map (·.1)=kvs.map (·.1):=by
   rw[gR]
   refine wV λp _=>?_
   show(if p.1=k then (p.1,v) else p).1=p.1
   split <;> rfl
  first
   | (rw[e]
      obtain⟨p,hp,ep⟩:=List.any_eq_true.mp h
      have ep:=cw ep
      exact⟨.inl,λw=>w.elim id λz=>by rw[z,<- ep]; exact cI.mpr ⟨p,hp,rfl⟩⟩)
 ·rw[bQ]
  simp
theorem xm {k:aQ}:∀{more kvs:List (aQ×V)},k∈(ir kvs more).map (·.1)↔k∈kvs.map (·.1)∨k∈more.map (·.1)
 | [],kvs=>by simp[ir]
 | p :: r,kvs=>by
  show k∈(ir (dC kvs p.1 p.2) r).map (·.1)↔_
  rw[xm,L9,eU,bh,or_assoc]
theorem qB {κ:Type}[DecidableEq κ]{kvs:List (κ×V)}{k:κ}:(b9 kvs k).isSome=true↔k∈kvs.map (·.1):=by
 constructor
 ·intro h
  obtain⟨v,e⟩:=tF.mp h
  exact FL e
 ·intro h
  cases z:b9 kvs k with
  | some _=>rfl
  | none=>exact absurd h (FK z)
def bS (x z:Str)(l:Nat):Bool:=decide (¬ ch x l=ch z l)
def dfc (rs:List Str)(n:Nat)(x z:Str):Nat:=(aR rs n).countP (bS x z)
theorem yM {p q r:Nat->Bool}:∀{L:List Nat},(∀ l∈L,(p l).toNat + (q l).toNat ≥ (r l).toNat)->(L.countP p + L.countP q ≥ L.countP r/\(L.countP p + L.countP q=L.countP r↔∀ l∈L,(p l).toNat + (q l).toNat=(r l).toNat))
 | [],_=>⟨aY _,λ_ _ h=>(by cases h),λ_=>rfl⟩
 | a :: L,h=>by
  obtain⟨h1,h2⟩:=yM (p:=p) (q:=q) (r:=r) (L:=L) λl hl=>h l (dy _ hl)
  have ha:=h a eJ
  have e:∀ f:Nat->Bool,(a :: L).countP f=L.countP f + (f a).toNat:=λf=>by
   rw[tL]
   cases f a <;> rfl
  rw[e,e,e]
  refine⟨by omega,λw=>?_,λw=>?_⟩
  ·have e1:L.countP p + L.countP q=L.countP r:=by omega
   have e2:=h2.mp e1
   intro l hl
   rcases bh.mp hl with rfl | hl
   ·omega
   ·exact e2 l hl
  ·have e1:=h2.mpr λl hl=>w l (dy _ hl)
   have e2:=w a eJ
   omega
section
variable {rs:List Str}{n:Nat}(hrs:∀ x∈rs,Row n x)
include hrs
theorem E9 {x:Str}(bx:b6 rs n x){l i:Nat}(hl:l < n)(hi:i < n)(h:cq rs l i=true):ch x l=ch x i:=by
 obtain⟨y,hy,e1,e2⟩:=bn.mp (bx l i hl hi)
 have:=(yc hrs hl hi).mp h y hy
 omega
theorem E8 {x:Str}(bx:b6 rs n x){l i:Nat}(hl:l < n)(hi:i < n)(h:cz rs l i=true):¬ ch x l=ch x i:=by
 obtain⟨y,hy,e1,e2⟩:=bn.mp (bx l i hl hi)
 have:=(EJ hrs hl hi).mp h y hy
 omega
theorem lR {x y:Str}(rx:Row n x)(ry:Row n y)(bx:b6 rs n x)(bY:b6 rs n y){l i:Nat}(hl:l < n)(hi:i < n)(h:bA rs l i=true):ch x i=ch y i↔ch x l=ch y l:=by
 have a1:=rx.bin i hi
 have a2:=ry.bin i hi
 have a3:=rx.bin l hl
 have a4:=ry.bin l hl
 unfold bA at h
 rw[wY] at h
 rcases h with h | h
 ·have e1:=E9 hrs bx hl hi h
  have e2:=E9 hrs bY hl hi h
  omega
 ·have e1:=E8 hrs bx hl hi h
  have e2:=E8 hrs bY hl hi h
  omega
theorem At {x y:Str}(bx:b6 rs n x)(bY:b6 rs n y){i:Nat}(hi:i < n)(h:cV rs i=false):ch x i=ch y i:=by
 obtain⟨u,hu,e1,_⟩:=bn.mp (bx i i hi hi)
 obtain⟨v,hv,e2,_⟩:=bn.mp (bY i i hi hi)
 have bu:=(hrs u hu).bin i hi
 have bv:=(hrs v hv).bin i hi
 refine o8 λw=>?_
 have:cV rs i=true:=by
  rw[r6]
  rcases bu with bu | bu <;> rcases bv with bv | bv
  ·omega
  ·exact⟨⟨v,hv,bv⟩,u,hu,bu⟩
  ·exact⟨⟨u,hu,bu⟩,v,hv,bv⟩
  ·omega
 rw[h] at this
 cases this
theorem yU {x y z:Str}(rx:Row n x)(ry:Row n y)(rz:Row n z)(bx:b6 rs n x)(bY:b6 rs n y)(bz:b6 rs n z):dfc rs n x z + dfc rs n z y=dfc rs n x y↔∀ i,i < n->ch x i=ch y i->ch z i=ch x i:=by
 have ln:∀ l∈aR rs n,l < n/\dh rs l=true:=λl hl=>by
  unfold aR at hl
  rw[cY,bK] at hl
  exact hl
 have pt:∀ l∈aR rs n,((bS x z l).toNat + (bS z y l).toNat ≥ (bS x y l).toNat)/\((bS x z l).toNat + (bS z y l).toNat=(bS x y l).toNat↔(ch x l=ch y l->ch z l=ch x l)):=λl hl=>by
  have l1:=(ln l hl).1
  have b1:=rx.bin l l1
  have b2:=ry.bin l l1
  have b3:=rz.bin l l1
  unfold bS
  rcases b1 with b1 | b1 <;> rcases b2 with b2 | b2 <;> rcases b3 with b3 | b3 <;> rw[b1,b2,b3] <;> simp
 unfold dfc
 rw[(yM λl hl=>(pt l hl).1).2]
 constructor
 ·intro h i hi e
  cases o:cV rs i with
  | false=>exact At hrs bz bx hi o
  | true =>
   obtain⟨l,l1,l2,l3⟩:=xv hrs i hi o
   have hl:l < n:=by omega
   have hm:l∈aR rs n:=by unfold aR; rw[cY,bK]; exact⟨hl,l2⟩
   refine(lR hrs rz rx bz bx hl hi l3).mpr ((pt l hm).2.mp (h l hm) ?_)
   exact(lR hrs rx ry bx bY hl hi l3).mp e
 ·intro h l hl
  exact(pt l hl).2.mpr (h l (ln l hl).1)
end
theorem Nd (x y:Str):bS x y=bS y x:=by
 funext l
 unfold bS
 rw[i6,dX,dX]
 exact⟨λh w=>h w.symm,λh w=>h w.symm⟩
theorem Ma (rs:List Str)(n:Nat)(x y:Str):dfc rs n x y=dfc rs n y x:=by
 unfold dfc
 rw[Nd]
theorem Nc (x y z:Str)(l:Nat):(bS x z l).toNat + (bS z y l).toNat ≥ (bS x y l).toNat:=by
 unfold bS
 by_cases a:ch x l=ch z l <;> by_cases b:ch z l=ch y l <;> by_cases c:ch x l=ch y l <;> simp[a,b,c] <;> omega
theorem DG {rs:List Str}{n:Nat}(hrs:∀ x∈rs,Row n x){x z:Str}(rx:Row n x)(rz:Row n z)(bx:b6 rs n x)(bz:b6 rs n z):dfc rs n x z=0↔x=z:=by
 have s0:dfc rs n x x=0:=by
  unfold dfc
  rw[List.countP_eq_zero]
  intro l _
  unfold bS
  simp
 constructor
 ·intro h
  refine(qJ rz.len rx.len λi hi=>?_).symm
  exact(yU hrs rx rx rz bx bx bz).mp (by rw[h,Ma rs n z x,h,s0]) i hi rfl
 ·rintro rfl
  exact s0
theorem CB {α:Type}(f:α->Nat):∀{l:List α},l≠[]->∃ a∈l,∀ b∈l,f b<=f a
 | [],h=>absurd rfl h
 | [a],_=>⟨a,List.mem_singleton_self a,λb hb=>by rw[bH.mp hb]; exact aY _⟩
 | a :: b :: l,_=>by
  obtain⟨c,hc,h⟩:=CB f (l:=b :: l) (by simp)
  by_cases e:f c<=f a
  ·refine⟨a,eJ,λd hd=>?_⟩
   rcases bh.mp hd with rfl | hd
   ·exact aY _
   ·exact b8 (h d hd) e
  ·refine⟨c,dy _ hc,λd hd=>?_⟩
   rcases bh.mp hd with rfl | hd
   ·omega
   ·exact h d hd
theorem yL {α:Type}{p q:α->Bool}:∀{l:List α},(∀ a∈l,p a=true->q a=true)->∀{b:α},b∈l->p b=false->q b=true->l.countP p < l.countP q
 | a :: l,h,b,hb,h1,h2=>by
  have le:l.countP p<=l.countP q:=List.countP_mono_left λc hc=>h c (dy _ hc)
  rw[tL,tL]
  rcases bh.mp hb with rfl | hb
  ·rw[aN (by rw[h1]; exact dN),aP h2]; omega
  ·have lt:=yL (λc hc=>h c (dy _ hc)) hb h1 h2
   have ha:=h a eJ
   by_cases e:p a=true
   ·rw[aP e,aP (ha e)]; omega
   ·rw[aN e]; omega
def ki (rs:List Str)(n l:Nat)(x z:Str):Prop:=∀ i,i < n->(ch z i=ch x i↔bA rs l i=false)
section
variable {rs:List Str}{n:Nat}(hrs:∀ x∈rs,Row n x)
include hrs
theorem FV {x g:Str}(rx:Row n x)(rg:Row n g)(bx:b6 rs n x)(bg:b6 rs n g)(ne:x≠g) :
  ∃ l,l∈aR rs n/\¬ ch x l=ch g l/\∀ z,Row n z->ki rs n l x z->b6 rs n z:=by
 have hD:((aR rs n).filter (bS x g))≠[]:=λh=>ne ((DG hrs rx rg bx bg).mp (by
  unfold dfc
  rw[List.countP_eq_length_filter,h]; rfl))
 obtain⟨l,hl,mx⟩:=CB (λl=>rs.countP λy=>decide (ch y l=ch g l)) hD
 rw[cY] at hl
 obtain⟨hl,dl⟩:=hl
 have dl:¬ ch x l=ch g l:=by unfold bS at dl; exact cw dl
 have hl':=hl
 unfold aR at hl'
 rw[cY,bK] at hl'
 obtain⟨ln,lo⟩:=hl'
 refine⟨l,hl,dl,λz rz tz=>?_⟩
 have zg:∀ i,i < n->bA rs l i=true->ch z i=ch g i:=λi hi ht=>by
  have a1:¬ ch z i=ch x i:=λw=>by rw[(tz i hi).mp w] at ht; cases ht
  have a2:¬ ch x i=ch g i:=λw=>dl ((lR hrs rx rg bx bg ln hi ht).mp w)
  have b1:=rz.bin i hi
  have b2:=rx.bin i hi
  have b3:=rg.bin i hi
  omega
 have zx:∀ i,i < n->bA rs l i=false->ch z i=ch x i:=λi hi ht=>(tz i hi).mpr ht
 have key:∀ q r,q < n->r < n->bA rs l q=true->bA rs l r=false->∃ y∈rs,ch y q=ch g q/\ch y r=ch x r:=by
  intro q r hq hr tq tr
  by_cases e:ch x r=ch g r
  ·obtain⟨y,hy,e1,e2⟩:=bn.mp (bg q r hq hr)
   exact⟨y,hy,e1,by omega⟩
  ·-- if no row did,l's answer of g would bring r's of g with it
   refine o8 λno=>?_
   have no:∀ y∈rs,ch y q=ch g q->ch y r=ch g r:=λy hy e1=>o8 λw=>no ⟨y,hy,e1,by
    have b1:=(hrs y hy).bin r hr
    have b2:=rx.bin r hr
    have b3:=rg.bin r hr
    omega⟩
   have ql:∀ y∈rs,(ch y q=ch g q↔ch y l=ch g l):=λy hy=>lR hrs (hrs y hy) rg (yX hy) bg ln hq tq
   have orr:cV rs r=true:=by
    cases z':cV rs r with
    | true=>rfl
    | false=>exact absurd (At hrs bx bg hr z') e
   obtain⟨l2,l2r,lo2,t2⟩:=xv hrs r hr orr
   have l2n:l2 < n:=by omega
   have rl:∀ y∈rs,(ch y r=ch g r↔ch y l2=ch g l2):=λy hy=>lR hrs (hrs y hy) rg (yX hy) bg l2n hr t2
   have d2:¬ ch x l2=ch g l2:=λw=>e ((lR hrs rx rg bx bg l2n hr t2).mpr w)
   have m2:l2∈(aR rs n).filter (bS x g):=by
    rw[cY]
    unfold aR
    rw[cY,bK]
    exact⟨⟨l2n,lo2⟩,bR d2⟩
   have imp:∀ y∈rs,ch y l=ch g l->ch y l2=ch g l2:=λy hy e1=>(rl y hy).mp (no y hy ((ql y hy).mpr e1))
   have le:=mx l2 m2
   have same:∀ y∈rs,ch y l2=ch g l2->ch y l=ch g l:=by
    refine λy hy e1=>o8 λw=>?_
    have lt:=yL (p:=λy=>decide (ch y l=ch g l)) (q:=λy=>decide (ch y l2=ch g l2)) (λy hy h=>bR (imp y hy (cw h))) hy (cy w) (bR e1)
    omega
   have tg2:bA rs l l2=true:=by
    rw[jB hrs ln l2n]
    by_cases c:ch g l=ch g l2
    ·refine .inl λy hy=>?_
     have b1:=(hrs y hy).bin l ln
     have b2:=(hrs y hy).bin l2 l2n
     have b3:=rg.bin l ln
     have i1:=imp y hy
     have i2:=same y hy
     omega
    ·refine .inr λy hy=>?_
     have b1:=(hrs y hy).bin l ln
     have b2:=(hrs y hy).bin l2 l2n
     have b3:=rg.bin l ln
     have b4:=rg.bin l2 l2n
     have i1:=imp y hy
     have i2:=same y hy
     omega
   rw[oH hrs ln l2n hr tg2 t2] at tr
   cases tr
 intro q r hq hr
 refine bn.mpr ?_
 cases tq:bA rs l q <;> cases tr:bA rs l r
 ·obtain⟨y,hy,e1,e2⟩:=bn.mp (bx q r hq hr)
  exact⟨y,hy,by rw[zx q hq tq]; exact e1,by rw[zx r hr tr]; exact e2⟩
 ·obtain⟨y,hy,e1,e2⟩:=key r q hr hq tr tq
  exact⟨y,hy,by rw[zx q hq tq]; exact e2,by rw[zg r hr tr]; exact e1⟩
 ·obtain⟨y,hy,e1,e2⟩:=key q r hq hr tq tr
  exact⟨y,hy,by rw[zg q hq tq]; exact e1,by rw[zx r hr tr]; exact e2⟩
 ·obtain⟨y,hy,e1,e2⟩:=bn.mp (bg q r hq hr)
  exact⟨y,hy,by rw[zg q hq tq]; exact e1,by rw[zg r hr tr]; exact e2⟩
end
def Mt (n:Nat)(p z:Str):Prop:=∀ i,i < n->ch p i=45∨ch p i=ch z i
structure fI (rs:List Str) (n:Nat) (p x z:Str):Prop where
 row:Row n z
 fit:∀ i,i < n->eM rs n p i (ch x i)->ch z i=ch x i
 nof:∀ i,i < n->¬ eM rs n p i (ch x i)->¬ ch z i=ch x i
section
variable {rs:List Str}{n:Nat}(hrs:∀ x∈rs,Row n x) {p x z:Str}(rx:Row n x) (bx:b6 rs n x) (hp:dQ n p) (sp:eh rs n p) (N:fI rs n p x z)
theorem oz {o:Str}(bo:b6 rs n o)(m:Mt n p o):eh rs n p:=λq r hq hr nq nr=>by
 have e1:ch p q=ch o q:=(m q hq).resolve_left nq
 have e2:ch p r=ch o r:=(m r hr).resolve_left nr
 rw[e1,e2]
 exact bo q r hq hr
include hrs rx bx N
theorem wR {i:Nat}(hi:i < n)(c:¬ ch z i=ch x i):∃ g,g < n/\¬ ch p g=45/\∀ y∈rs,ch y g=ch p g->ch y i=ch z i:=by
 have nf:¬ eM rs n p i (ch x i):=λw=>c (N.fit i hi w)
 have b1:=rx.bin i hi
 have b2:=N.row.bin i hi
 by_cases h:∃ g,g < n/\¬ ch p g=45/\¬ 0 < aT rs i (ch x i) g (ch p g)
 ·obtain⟨g,hg,ng,e⟩:=h
  refine⟨g,hg,ng,λy hy e2=>?_⟩
  have b3:=(hrs y hy).bin i hi
  have:¬ ch y i=ch x i:=λw=>e (bn.mpr ⟨y,hy,w,e2⟩)
  omega
 ·refine absurd ⟨bx i i hi hi,λr hr nr=>?_⟩ nf
  cases Nat.eq_zero_or_pos (aT rs i (ch x i) r (ch p r)) with
  | inr h=>exact h
  | inl e=>exact absurd ⟨r,hr,nr,by omega⟩ h
include sp
theorem ER {i:Nat}(hi:i < n):eM rs n p i (ch z i):=by
 by_cases c:ch z i=ch x i
 ·by_cases f:eM rs n p i (ch x i)
  ·rw[c]; exact f
  ·exact absurd c (N.nof i hi f)
 ·obtain⟨g,hg,ng,h⟩:=wR hrs rx bx N hi c
  refine⟨?_,λr hr nr=>?_⟩
  ·obtain⟨y,hy,e,_⟩:=bn.mp (sp g g hg hg ng ng)
   exact bn.mpr ⟨y,hy,h y hy e,h y hy e⟩
  ·obtain⟨y,hy,e,e2⟩:=bn.mp (sp g r hg hr ng nr)
   exact bn.mpr ⟨y,hy,h y hy e,e2⟩
theorem Nz:b6 rs n z:=λq r hq hr=>by
 by_cases c:ch z q=ch x q
 ·by_cases d:ch z r=ch x r
  ·rw[c,d]; exact bx q r hq hr
  ·obtain⟨g,hg,ng,h⟩:=wR hrs rx bx N hr d
   obtain⟨y,hy,e1,e2⟩:=bn.mp ((ER hrs rx bx sp N hq).2 g hg ng)
   exact bn.mpr ⟨y,hy,e1,h y hy e2⟩
 ·obtain⟨g,hg,ng,h⟩:=wR hrs rx bx N hq c
  obtain⟨y,hy,e1,e2⟩:=bn.mp ((ER hrs rx bx sp N hr).2 g hg ng)
  exact bn.mpr ⟨y,hy,h y hy e2,e1⟩
include hp
theorem fI.mt:Mt n p z:=λi hi=>by
 by_cases e:ch p i=45
 ·exact .inl e
 refine .inr ?_
 by_cases c:ch x i=ch p i
 ·have f:eM rs n p i (ch x i):=by
   rw[c]
   exact⟨sp i i hi hi e e,λr hr nr=>sp i r hi hr e nr⟩
  rw[N.fit i hi f,c]
 ·have f:¬ eM rs n p i (ch x i):=λf=>by
   obtain⟨y,hy,e1,e2⟩:=bn.mp (f.2 i hi e)
   exact c (e1.symm.trans e2)
  have d:=N.nof i hi f
  have b1:=rx.bin i hi
  have b2:=N.row.bin i hi
  have b3:=hp.2 i hi
  omega
omit hp
theorem Nx {o:Str}(bo:b6 rs n o)(m:Mt n p o){i:Nat}(hi:i < n)(c:¬ ch z i=ch x i):ch o i=ch z i:=by
 obtain⟨g,hg,ng,h⟩:=wR hrs rx bx N hi c
 obtain⟨y,hy,e1,e2⟩:=bn.mp (bo g i hg hi)
 have e3:ch p g=ch o g:=(m g hg).resolve_left ng
 rw[<- e2]
 exact h y hy (e1.trans e3.symm)
theorem Ny {o:Str}(bo:b6 rs n o)(m:Mt n p o):dfc rs n x z + dfc rs n z o=dfc rs n x o:=by
 refine((yM (p:=bS x z) (q:=bS z o) (r:=bS x o) (L:=aR rs n) λl _=>Nc x o z l).2).mpr λl hl=>?_
 have ln:l < n:=by
  unfold aR at hl
  rw[cY,bK] at hl
  exact hl.1
 unfold bS
 by_cases c:ch z l=ch x l
 ·rw[c,cy (show ¬ ¬ ch x l=ch x l from λw=>w rfl)]
  exact Nat.zero_add _
 ·have d1:¬ ch x l=ch z l:=λw=>c w.symm
  rw[Nx hrs rx bx sp N bo m ln c,bR d1,cy (show ¬ ¬ ch z l=ch z l from λw=>w rfl)]
  rfl
end
section
variable {X:Cx}
theorem E3 (hc:X.calm=true):gZ X (.builtin "sum") (λxs H Q=>∃(a:Addr) (ns:List Int),xs=[.ref a]/\aD X.K H a (ns.map V.int)/\Q (.int ns.sum) H):=by
 intro pins s σ H xs us Q I r h
 obtain⟨a,ns,rfl,hq,q⟩:=h
 obtain⟨u,rfl,ru⟩:=r.one
 cases ru
 obtain⟨its,rv,p,hz⟩:=I.list hq
 refine call_sum_walkAnyS (wpAny_pyIter_list p.isList ?_)
 have lt:a < s.heap.objs.size:=by obtain⟨o,n,e,_⟩:=p; exact bU e
 have ne:a≠s.heap.objs.size:=cQ lt
 have hh:X.A.in1.handled=none:=I.ok.hd hc
 have ln:its.length=ns.length:=by rw[<- rv.length,aI]
 refine⟨s.heap.objs.size,_,_,_,_,_,_,λi=>ns.getD i 0,rfl,(Walks.list hh _ a ne its.toArray).toS,⟨⟨_,fD _ rfl,rfl,rfl⟩,p.isList.push _⟩,λb hb=>?_,λi v hv=>?_,λs' t' hmv=>?_⟩
 ·show b < (s.heap.push _).objs.size
  rw[eL]
  rcases bh.mp hb with e | hb
  ·rw[e]; exact nu _
  ·rw[bH.mp hb]; exact nv lt
 ·have hv':its[i]? = some v:=by simpa using hv
  have il:i < ns.length:=by rw[<- ln]; exact(cE.mp hv').1
  obtain⟨u,eu,ru⟩:=rv.get (i:=i) (x:=.int ns[i]) (by rw[ar,bZ il]; rfl)
  rw[hv'] at eu
  cases eu
  obtain⟨t,e⟩:=ru
  exact⟨t,by rw[e]; simp[ib,bZ il]⟩
 ·have e:preSum (λi=>ns.getD i 0) its.toArray.size=ns.sum:=by
   rw[fX,ln,xO ns _ (aY _),cW]
  have kp:∀ b o,s.heap.get? b=some o->s'.heap.get? b=some o:=λb o e =>
   hmv.heap b o (λhI=>by
    rw[bH] at hI
    have lt:=bU e
    rw[hI] at lt
    exact ia _ lt) (bj _ e)
  rw[Moved.eq_with hmv]
  exact⟨.int ns.sum,H,I.kept (t':=s'.toks) kp,⟨t',by rw[e]⟩,q⟩
end
abbrev ii:=List (Str×Nat)
def ck (p:Str×Nat):List aQ:=[.inr p.1,.inl (p.2:Int)]
def lH (cs:ii):Nat:=(cs.map (·.2)).sum
def q0 (cs:ii)(f:Str->Bool):Nat:=(cs.map λp=>if f p.1 then p.2 else 0).sum
def lE (cs:ii)(q:Nat):Nat:=q0 cs λx=>decide (ch x q=121)
def q9 (cs:ii)(q:Nat):Nat:=if lH cs < 2 * lE cs q then 121 else if 2 * lE cs q < lH cs then 110 else 45
theorem FI (p:Str×Nat)(r:ii)(f:Str->Bool):q0 (p :: r) f=(if f p.1=true then p.2 else 0) + q0 r f:=by unfold q0; rw[eU,List.sum_cons]
def F9 (n:Nat)(cs:ii):Prop:=∀ p∈cs,Row n p.1/\1<=p.2
open PySem PySem.Spec
section
variable {prog:Program}{w:World}{A:Around}{E:Value->Shared->Prop}{s:Shared}
theorem Ld {d:Addr}{o:Obj}{es:Array DictEntry}{ep:Nat}{Q:Value->Shared->Prop}(hd:(d == sysModules)=false)(ho:s.heap.get? d=some o)(hx:o.ExactDict)(hdat:o.data=.dict es ep)
  (hQ:Q (.ref s.heap.objs.size) { s with heap:=s.heap.push { cls:=.type "dict_keyiterator",data:=.fields #[.ref d,.int 0 0,.int es.size 0,.int ep 0] } }) :
  wpAny (model prog w) A (pyIter (.ref d)) Q E s:=by
 have hT:s.TypeIs (.ref d) "dict" := ⟨o,ho,hx.1⟩
 refine wpAny_pyIter_slot hT F.slot_dict_iter (lF F.slot_dict_iter hT F.entry_dict_iter ?_ (F.args_dict_iter_1 _))
 unfold Builtin.«dict.__iter__» Builtin.Dict.dictSlotNone
 refine aE (aE (wpAny_notOrdered_dict hT (aa ?_)))
 show wpAny _ _ (Builtin.Dict.showsAll d >>= _) _ _ s
 unfold Builtin.Dict.showsAll
 rw[aN (by rw[hd]; exact dN)]
 refine aE (aa (aE (wpAny_dictEntries ho hdat (aE (wpAny_dictEpoch ho hdat ?_)))))
 exact aE (pi (aa ⟨_,rfl, "dict_keyiterator",_,⟨_,fD _ rfl,rfl⟩,F.slot_dict_keyiterator_next.lookup,by simpa [rawInt] using hQ⟩))
theorem KR {it d:Addr}{i ep:Nat}{od:Obj}{es:Array DictEntry}{Q:Option Value->Shared->Prop}(hit:s.heap.IsKeyIter it d i es.size ep)(hod:s.heap.get? d=some od)(hdd:od.data=.dict es ep)(hi:i < es.size)
  (hQ:∀ h',h'.IsKeyIter it d (i + 1) es.size ep->Heap.SameBut it s.heap h'->Q (some es[i].key) { s with heap:=h' }):wpAny (model prog w) A (pyNext (.ref it)) Q E s:=by
 obtain⟨o,ho,hc,hd⟩:=id hit
 have hit':(s.heap.update it (Obj.mapFields (·.setIfInBounds 1 (rawInt ((i:Int) + 1))))).IsKeyIter it d (i + 1) es.size ep :=
  ⟨_,Heap.get?_update_self _ ho (Obj.isFreed_of_fields (Obj.data_mapFields hd _)),(Obj.cls_mapFields ..).trans hc,by rw[Obj.data_mapFields hd]; simp[rawInt]⟩
 have fin:=hQ _ hit' (Heap.SameBut.update ..)
 unfold pyNext
 refine aE (py (pk (name:=Str.ofString "__next__") hit.typeIs zA
  (lF zA hit.typeIs F.entry_dict_keyiterator_next ?_ (F.args_dict_keyiterator_next_1 _))))
 refine aE (aa (aE (aE ?_)))
 first | refine aE (wd hit.typeIs (aa ?_)) | refine aE (wc hit.typeIs (aa ?_))
 refine aE (wpAny_fieldsOf ho hd ?_)
 simp only[show Builtin.Dict_items.ownsTuple "dict_keyiterator" = false by decide,mN,iw]
 show wpAny _ _ (if (Value.ref d == Value.none)=true then _ else _) _ _ s
 rw[aN (show ¬ ((Value.ref d == Value.none)=true) from dN)]
 refine aE (aa (aE (wpAny_dictEntries hod hdd ?_)))
 rw[aN (by simp)]
 refine aE (aa (aE (wpAny_dictEpoch hod hdd ?_)))
 rw[aN (by simp)]
 refine aa ?_
 simp only[show ¬ ((i:Int) < 0) from by omega,iw,Int.toNat_natCast,Array.getElem?_eq_getElem hi]
 refine aE ?_
 first | refine aE (wd hit.typeIs (aa ?_)) | refine aE (wc hit.typeIs (aa ?_))
 refine aE (wpAny_isOneOf_keyiter hit.typeIs ?_)
 show wpAny _ _ (setField (.ref it) 1 (rawInt ((i:Int) + 1)) >>= _) _ _ s
 refine aE (wpAny_setField ho hd (by simp) (aE (pj ?_)))
 refine aE (wpAny_isOneOf_keyiter (s:={ s with heap:=s.heap.update it (Obj.mapFields (·.setIfInBounds 1 (rawInt ((i:Int) + 1)))) }) hit'.typeIs ?_)
 show wpAny _ _ (pure es[i].key) _ _ _
 exact aa (aa ⟨_,rfl,aa fin⟩)
theorem KU {it d:Addr}{i ep:Nat}{od:Obj}{es:Array DictEntry}{Q:Option Value->Shared->Prop}(hh:A.handled=none)(hit:s.heap.IsKeyIter it d i es.size ep)(hod:s.heap.get? d=some od)(hdd:od.data=.dict es ep)(hi:es.size<=i)
  (hQ:∀ h',Heap.ExtBut it s.heap h'->Q none { s with heap:=h' }):wpAny (model prog w) A (pyNext (.ref it)) Q E s:=by
 obtain⟨o,ho,hc,hd⟩:=id hit
 unfold pyNext
 refine aE (py (pk (name:=Str.ofString "__next__") hit.typeIs zA
  (lF zA hit.typeIs F.entry_dict_keyiterator_next ?_ (F.args_dict_keyiterator_next_1 _))))
 refine aE (aa (aE (aE ?_)))
 first | refine aE (wd hit.typeIs (aa ?_)) | refine aE (wc hit.typeIs (aa ?_))
 refine aE (wpAny_fieldsOf ho hd ?_)
 simp only[show Builtin.Dict_items.ownsTuple "dict_keyiterator" = false by decide,mN,iw]
 show wpAny _ _ (if (Value.ref d == Value.none)=true then _ else _) _ _ s
 rw[aN (show ¬ ((Value.ref d == Value.none)=true) from dN)]
 refine aE (aa (aE (wpAny_dictEntries hod hdd ?_)))
 rw[aN (by simp)]
 refine aE (aa (aE (wpAny_dictEpoch hod hdd ?_)))
 rw[aN (by simp)]
 refine aa ?_
 simp only[show ¬ ((i:Int) < 0) from by omega,iw,Int.toNat_natCast,tQ hi]
 refine aE ?_
 first | refine aE (wd hit.typeIs (aa ?_)) | refine aE (wc hit.typeIs (aa ?_))
 show wpAny _ _ (setField (.ref it) 0 .none >>= _) _ _ s
 refine aE (wpAny_setField ho hd (by simp) ?_)
 show wpAny _ _ (newExc (.type "StopIteration") [] >>= _) _ _ _
 refine aE ?_
 simp only[newExc,newTuple]
 refine aE (pi ?_ (by size_fits))
 refine aE (m:=firstArgMember _ _) (wpAny_of_eq (a:=Value.none) (by first | rfl | (simp only[firstArgMember]; rfl)) ?_)
 refine pi ?_ (by size_fits)
 simp only[raiseNew]
 refine aE (wpAny_handled ?_)
 rw[show A.in1.handled=none from hh]
 refine aE (aa (wpAny_throw ?_))
 refine aE (wpAny_isInstance (T := "StopIteration") (b:=true) ⟨_,fD _ rfl,rfl⟩ isSubtype_stop ?_)
 exact aa (hQ _ (((Heap.SameBut.update ..).extBut.push _).push _))
end
theorem BE {α β:Type}{F:α->β->Prop}{l:List α}{m:List β}(h:Paired F l m):l.length=m.length/\∀{i:Nat}{a:α},l[i]? = some a->∃ b,m[i]? = some b/\F a b:=by
 induction h with
 | nil=>exact⟨rfl,λh=>by cases h⟩
 | cons f r ih =>
  refine⟨by rw[dm,dm,ih.1],λ{i a} h=>?_⟩
  cases i with
  | zero=>cases h; exact⟨_,rfl,f⟩
  | succ i=>exact ih.2 h
def jV (a:Addr)(o:Obj):It :=
 ⟨λi H=>∃ kvs,H a=some (.frz o (.dT kvs))/\i < kvs.length,
  λi H x H'=>H'=H/\∃ b,x=.ref b/\∀ kvs,H a=some (.frz o (.dT kvs))->∃ k v,kvs[i]? = some (k,v)/\H b=some (.tup (k.map kV)),
  λi H=>∃ kvs,H a=some (.frz o (.dT kvs))/\kvs.length<=i⟩
theorem yG {P:Program}{w:World}{H:Hp}{h:Heap}{a:Addr}{o:Obj}{kvs:List (List aQ×V)}(x:dL P w H h a (.frz o (.dT kvs))) :
  (a == sysModules)=false/\h.get? a=some o/\o.ExactDict/\∃ es ep,o.data=.dict es ep/\es.size=kvs.length/\∀(i:Nat) (hi:i < es.size),∃ k v b,kvs[i]? = some (k,v)/\es[i].key=.ref b/\H b=some (.tup (k.map kV)):=by
 obtain⟨ho,z,y,xs,r,o',es,ep,h1,h2,h3,h4,h5⟩:=x
 rw[ho] at h1
 cases h1
 have l1:=(BE r).1
 have sz:es.size=kvs.length:=by rw[l1,<- Array.length_toList,h4,aI]
 refine⟨y,ho,h2,es,ep,h3,sz,λi hi=>?_⟩
 have hk:kvs[i]? = some kvs[i]:=bZ (by omega)
 obtain⟨q,e1,e2,e3,e4⟩:=(BE r).2 hk
 refine⟨_,_,q.2.1,hk,?_,e3⟩
 have:es.toList[i]? = some (entryOfKey (tupleKind (dg P w)) q):=by rw[h4,ar,e1]; rfl
 have h6:es[i]=entryOfKey (tupleKind (dg P w)) q:=by
  have h7:es.toList[i]? = some es[i]:=by simp[hi]
  rw[h7] at this
  exact kD this
 rw[h6]
 rfl
theorem FZ {P:Program}{w:World}{K:PySem.W.Frag}{tg:Expr}(a it:Addr)(o:Obj):i5 P w K tg (jV a o) [it] it (λi h=>∃ es ep,o.data=.dict es ep/\h.IsKeyIter it a i es.size ep) where
 mem:=by simp
 obj:=λi h st b hb=>by
  have e:b=it:=by simpa using hb
  subst e
  obtain⟨_,_,_,o,e,c,d⟩:=st
  exact⟨o,e,λv z=>by rw[d] at z; cases z⟩
 keep:=λi h h' st k=>let ⟨es,ep,d,st⟩:=st; ⟨es,ep,d,st.at λo e=>k it (by simp) o e⟩
 item:=by
  intro X hP hw hK hc i pins s σ H E I hf st hg
  subst hP hw hK
  obtain⟨kvs,e,il⟩:=hg
  obtain⟨es',ep',d',st⟩:=st
  obtain⟨_,ho,hx,es,ep,d,sz,at_⟩:=yG (I.hok a _ e)
  rw[d] at d'
  cases d'
  obtain⟨k,v,b,e1,e2,e3⟩:=at_ i (by omega)
  obtain⟨f0,f1,f2,f3,f4,f5⟩:=hf it (by simp)
  refine KR st ho d (by omega) λh' st' sb=>?_
  have I1:Inv X pins σ H { s with heap:=h' }:=I.turned (t':=s.toks) (λb o hb e=>(sb.2 b hb).trans e) f0 f1 f3 f4 f5
  obtain⟨oi,ei,ci,di⟩:=id st'
  refine⟨_,rfl,vj (s:={ s with heap:=h' }) ei ci di (by decide) ⟨.ref b,H,I1,e2,⟨rfl,b,rfl,λkvs' e'=>?_⟩,⟨_,_,d,st'⟩,λb hb=>(hf b hb).1⟩⟩
  rw[e] at e'
  cases e'
  exact⟨k,v,e1,e3⟩
 done:=by
  intro X hP hw hK hc i pins s σ H E I hf st hg
  subst hP hw hK
  obtain⟨kvs,e,il⟩:=hg
  obtain⟨es',ep',d',st⟩:=st
  obtain⟨_,ho,hx,es,ep,d,sz,at_⟩:=yG (I.hok a _ e)
  rw[d] at d'
  cases d'
  obtain⟨f0,f1,f2,f3,f4,f5⟩:=hf it (by simp)
  exact KU (I.ok.hd hc) st ho d (by omega) λh' eb=>⟨rfl,I.turned (t':=s.toks) (λb o hb e=>eb b o hb e) f0 f1 f3 f4 f5⟩
 self:=λ_ _ _ _ _ ⟨_,_,_,st⟩ h=>wpAny_pyIter_keyiter st h
section
variable {X:Cx}{tg:Expr}
theorem Inv.freeze {pins:List (Addr×Obj)}{σ:St}{H:Hp}{s:Shared}{a:Addr}{kvs:List (List aQ×V)}(I:Inv X pins σ H s)(e:H a=some (.dT kvs)):∃ o,Inv X pins σ (upd H a (.frz o (.dT kvs))) s:=by
 have x:=I.hok a _ e
 obtain⟨z,y,xs,r,o,es,ep,h1,h2,h3,h4,h5⟩:=id x
 have mu:pP (H a):=by rw[e]; trivial
 have ta:∀ b ys,H b=some (.tup ys)->upd H a (.frz o (.dT kvs)) b=some (.tup ys):=λb ys q=>by rw[aj (λw=>by rw[w,e] at q; cases q)]; exact q
 have hk:=I.hok.write (x:=a) (e:=a) (o':=.frz o (.dT kvs)) (h':=s.heap) mu (.inl rfl) (λ_ _ _ q=>q) ⟨o,h1⟩ ⟨h1,z,y,xs,wM r λp q z=>⟨z.1,ta _ _ z.2.1,z.2.2⟩,o,es,ep,h1,h2,h3,h4,h5⟩
 exact⟨o,I.un (t':=s.toks) (Un.write (x:=a) (e:=a) mu (.inl rfl) (λ_ _ _ q=>q) ⟨o,h1⟩) hk⟩
def y8 (te:TE):TI:=λσ H R=>te σ H λv H1=>∃ a kvs,v=.ref a/\((H1 a=some (.dT kvs)/\∀ o,R (jV a o) (upd H1 a (.frz o (.dT kvs))))∨∃ o,H1 a=some (.frz o (.dT kvs))/\R (jV a o) H1)
theorem B8 {l:Expr}{tl:TE}(hl:PE X l tl):PI X tg l (y8 tl):=by
 intro pins s σ H R I h
 refine aZ (hl pins s σ H _ I h) λv s1 ⟨x,H1,I1,r1,q1⟩=>?_
 obtain⟨a,kvs,e,q⟩:=q1
 subst e
 cases r1
 have fin:∀(H2:Hp) (o:Obj),Inv X pins σ H2 s1->H2 a=some (.frz o (.dT kvs))->R (jV a o) H2->wpAny (model X.prog X.w) X.A (pyIter (.ref a)) (yk X pins σ tg R) X.xe s1:=λH2 o I2 e2 q2=>by
  obtain⟨y,ho,hx,es,ep,d,sz,_⟩:=yG (I2.hok a _ e2)
  refine Ld y ho hx d ?_
  refine⟨s1.heap.objs.size,[s1.heap.objs.size],_,_,H2,rfl,I2.kept (t':=s1.toks) λb o e=>bj _ e,FZ a _ o,⟨es,ep,d,_,fD _ rfl,rfl,rfl⟩,λb hb=>?_,q2⟩
  have e:b=s1.heap.objs.size:=by simpa using hb
  subst e
  exact I2.fpOk (aY _) (I2.hok.fresh (aY _))
 rcases q with⟨e1,q⟩ | ⟨o,e1,q⟩
 ·obtain⟨o,I2⟩:=I1.freeze e1
  exact fin _ o I2 aF (q o)
 ·exact fin _ o I1 e1 q
theorem Co {a:Addr}{o:Obj}{kvs:List (List aQ×V)}{g:TG}{tb:TS}{D:jW}{σ:St}{H:Hp}(Pv:Nat->St->Hp->Prop)(h0:Pv 0 σ H)(hl:∀ i σ H,i<=kvs.length->Pv i σ H->H a=some (.frz o (.dT kvs)))
  (hs:∀ i k v b σ H,kvs[i]? = some (k,v)->Pv i σ H->H b=some (.tup (k.map kV))->g (.ref b) σ H λσ2 H2=>tb { D with nx:=Pv (i + 1),ct:=Pv (i + 1),bk:=D.nx } σ2 H2) (hd:∀ σ H,Pv kvs.length σ H->D.nx σ H) :
  ∃ W:Nat->Nat->St->Hp->Prop,(∃ m,W 0 m σ H)/\∀ i m σ H,W i m σ H ->
   ((jV a o).stop i H/\D.nx σ H)∨((jV a o).go i H/\∃ N:St->Hp->Prop,(∀ σ' H',N σ' H'->∃ m',m' < m/\W (i + 1) m' σ' H')/\∀ x H',(jV a o).yld i H x H'->g x σ H' λσ2 H2=>tb { D with nx:=N,ct:=N,bk:=D.nx } σ2 H2):=by
 refine⟨λi m σ H=>m=kvs.length - i/\i<=kvs.length/\Pv i σ H,⟨kvs.length,by simp,bX _,h0⟩,?_⟩
 rintro i m σ H ⟨rfl,hi,p⟩
 have e:=hl i σ H hi p
 by_cases hlt:i < kvs.length
 ·refine .inr ⟨⟨kvs,e,hlt⟩,Pv (i + 1),λσ' H' q=>⟨kvs.length - (i + 1),by omega,rfl,by omega,q⟩,?_⟩
  rintro x H' ⟨rfl,b,rfl,f⟩
  obtain⟨k,v,e1,e2⟩:=f kvs e
  exact hs i k v b σ H' e1 p e2
 ·have z:i=kvs.length:=by omega
  subst z
  exact .inl ⟨⟨kvs,e,aY _⟩,hd σ H p⟩
end
section
variable {X:Cx}
theorem Inv.thaw {pins:List (Addr×Obj)}{σ:St}{H:Hp}{s:Shared}{a:Addr}{o:Obj}{kvs:List (List aQ×V)}(I:Inv X pins σ H s)(e:H a=some (.frz o (.dT kvs)))(h0:X.H₀ a=none):Inv X pins σ (upd H a (.dT kvs)) s:=by
 have ne:∀ b,H b=none->upd H a (.dT kvs) b=none:=λb n=>by rw[aj (λw=>by rw[w,e] at n; cases n)]; exact n
 have ta:∀ b ys,H b=some (.tup ys)->upd H a (.dT kvs) b=some (.tup ys):=λb ys q=>by rw[aj (λw=>by rw[w,e] at q; cases q)]; exact q
 have to:∀ b c,H b=some (.own c)->upd H a (.dT kvs) b=some (.own c):=λb ys q=>by rw[aj (λw=>by rw[w,e] at q; cases q)]; exact q
 refine⟨I.ok,I.os,I.bare,⟨I.base.keep,I.base.slot,λb o q n hx=>ne b (I.base.free b o q n hx),I.base.there,λb xs q=>ta b xs (I.base.tups b xs q),λb u xs q=>?_,λb ps q=>?_⟩,I.loc,I.cell,ne _ I.free,λx c h=>ne _ (I.freeC x c h),λp hp=>?_,λb u q=>?_,I.len⟩
 ·rw[aj (λw=>by rw[w,h0] at q; cases q)]
  exact I.base.frzs b u xs q
 ·obtain⟨more,q'⟩:=I.base.tbls b ps q
  exact⟨more,by rw[aj (λw=>by rw[w,e] at q'; cases q')]; exact q'⟩
 ·obtain⟨h1,h2,h3⟩:=I.pin p hp
  exact⟨h1,ne _ h2,h3⟩
 ·by_cases w:b=a
  ·subst w
   rw[aF] at q
   cases q
   exact dL.stay (show dL X.prog X.w H s.heap b (.dT kvs) from(I.hok b _ e).2) (λ_ _ _ q=>q) (λc q=>to c _ q) ta
  ·rw[aj w] at q
   exact(I.hok b u q).stay (λ_ _ _ q=>q) (λc q=>to c _ q) ta
def ze (H₀:Hp)(ts:TS):TS:=λD σ H=>ts D σ H∨ig λa o kvs=>H₀ a=none/\H a=some (.frz o (.dT kvs))/\ts D σ (upd H a (.dT kvs))
theorem J6 {st:Stmt}{ts:TS}(h:PS X st ts):PS X st (ze X.H₀ ts):=by
 intro pins s σ H D I q
 rcases q with q | ⟨a,o,kvs,h0,e,q⟩
 ·exact h pins s σ H D I q
 ·exact h pins s σ _ D (I.thaw e h0) q
end
theorem Ly {H:Hp}{td:Addr}{kvs:List (List aQ×V)}{R:It->Hp->Prop}(d:H td=some (.dT kvs)∨∃ o,H td=some (.frz o (.dT kvs)))
  (h:∀ o H',H' td=some (.frz o (.dT kvs))->(∀ b,b≠td->H' b=H b)->R (jV td o) H'):∃ a kvs',V.ref td=.ref a/\((H a=some (.dT kvs')/\∀ o,R (jV a o) (upd H a (.frz o (.dT kvs'))))∨∃ o,H a=some (.frz o (.dT kvs'))/\R (jV a o) H):=by
 refine⟨td,kvs,rfl,?_⟩
 rcases d with e | ⟨o,e⟩
 ·exact .inl ⟨e,λo=>h o _ aF λb nb=>aj nb⟩
 ·exact .inr ⟨o,e,h o H e λ_ _=>rfl⟩
theorem Fj {H₀ H:Hp}{td:Addr}{kvs:List (List aQ×V)}{ts:TS}{D:jW}{σ:St}(h0:H₀ td=none)(d:H td=some (.dT kvs)∨∃ o,H td=some (.frz o (.dT kvs)))
  (h:∀ H',H' td=some (.dT kvs)->(∀ b,b≠td->H' b=H b)->ts D σ H'):ze H₀ ts D σ H:=by
 rcases d with e | ⟨o,e⟩
 ·exact .inl (h H e λ_ _=>rfl)
 ·exact .inr ⟨td,o,kvs,h0,e,h _ aF λb nb=>aj nb⟩
theorem J3 {κ:Type}[DecidableEq κ](kvs:List (κ×V))(k:κ)(v:V):(dC kvs k v).length<=kvs.length + 1:=by
 unfold dC
 split
 ·rw[aI]; omega
 ·rw[cR]; exact aY _
theorem aB.but {H H1 H2:Hp}{td:Addr}(s:aB H H1)(h0:H td=none)(h:∀ b,b≠td->H2 b=H1 b):aB H H2:=λb o e=>by
 rw[h b (λw=>by rw[w,h0] at e; cases e)]
 exact s b o e
theorem cH.but {H1 H2:Hp}{td:Addr}{rs:List Addr}{ks:List (List aQ)}(t:cH H1 rs ks)(hd:∀ xs,H1 td≠some (.tup xs))(h:∀ b,b≠td->H2 b=H1 b):cH H2 rs ks:=⟨t.1,λi r k a b=>by
 have e:=t.2 i r k a b
 rw[h r (λw=>by rw[w] at e; exact hd _ e)]
 exact e⟩
theorem Cg {i:Nat}{σ:St}{H:Hp}{td:Addr}{kvs:List (List aQ×V)}{R:It->Hp->Prop}(hσ:fJ i σ H λv H1=>v=.ref td/\H1=H)(d:H td=some (.dT kvs)∨∃ o,H td=some (.frz o (.dT kvs)))
  (h:∀ o H',H' td=some (.frz o (.dT kvs))->(∀ b,b≠td->H' b=H b)->R (jV td o) H'):y8 (fJ i) σ H R:=by
 obtain⟨v,e,rfl,_⟩:=hσ
 exact⟨_,e,Ly d h⟩
structure Xc (K:PySem.W.Frag) (mg:Str->Option Value) (W B f:Addr) (g:FuncData) (cls qn:Str) (st:Stmt):Prop where
 m:mg cls=some (.ref B)
 k:XKl K B
 s:Nl K B W
 i:XMk K B f
 F:ic K "__init__" qn st f g
 b:Binds K g ["self"] []
structure lC (X:Cx) (scope:Scope) (x0:Str) (N':List Str) (fm:List (Option Nat)):Prop where
 kind:scope.kind=.function
 one:∀ y∈scope.names,y.2=.cell->y.1=x0
 at0:scope.names.lookup x0=some .cell
 cells:∀ n cl,cellsFrom n scope.names cl=(x0,n) :: cl
 push:∀ h:Heap,pushCells h scope.names=h.push { cls:=.type "cell",data:=.cell none }
 names:∀ y∈scope.names,y.2=.local->scope.names.lookup y.1=some .local
 free:y9 scope X.env=true
 len:N'.length=fm.length
 map:((N'.zip fm).all λp=>match p.2 with | none=>true | some i=>(X.N[i]? == some p.1) && (scope.names.lookup p.1 == some NameKind.free))=true
def eQ (X:Cx)(scope:Scope)(x0:Str)(N':List Str)(s:Shared)(H:Hp)(C:Addr)(fp:List Addr):Cx :=
 { X with N:=N',s₀:=s,H₀:=H,env:=compEnvC scope ((x0,C + 1) :: gL scope X.env) C X.env,outer:=X.stack,ex:=fp,fn:=λx=>x == x0,pn:=[],xe:=λ_ _=>False }
theorem n9 {x0 x:Str}{n c:Addr}{cl:List (Str×Addr)}(h:((x0,n) :: cl).lookup x=some c):(x=x0/\c=n)∨(x≠x0/\cl.lookup x=some c):=by
 rw[iK] at h
 by_cases e:x=x0
 ·subst e
  simp at h
  exact .inl ⟨rfl,h.symm⟩
 ·have:(x == x0)=false:=by simpa using e
  rw[this] at h
  exact .inr ⟨e,h⟩
theorem CN {x0 x:Str}{n c:Addr}{cl:List (Str×Addr)}(e:x≠x0)(h:cl.lookup x=some c):((x0,n) :: cl).lookup x=some c:=by
 rw[iK]
 have:(x == x0)=false:=by simpa using e
 rw[this]; exact h
theorem LH {x0:Str}{n:Addr}{cl:List (Str×Addr)}:((x0,n) :: cl).lookup x0=some n:=by
 rw[iK]; simp
section
variable {X:Cx}{pins:List (Addr×Obj)}{σ:St}{H H':Hp}{s:Shared}{scope:Scope}{x0:Str}{N':List Str}{fm:List (Option Nat)}{fp:List Addr}{h':Heap}{tk:Nat}
theorem lC.cl (S:lC X scope x0 N' fm)(I:Inv X pins σ H s):∀ p∈scope.names,p.2=NameKind.free->∃ c,X.env.cells.lookup p.1=some c:=λp hp hf=>I.ok.has p.1 (vn S.free hp hf)
theorem lC.look (S:lC X scope x0 N' fm)(I:Inv X pins σ H s){x:Str}{c:Addr}(h:(gL scope X.env).lookup x=some c):X.env.cells.lookup x=some c/\(x,NameKind.free)∈scope.names:=by
 rcases yO scope.names [] (S.cl I) h with q | q
 ·exact q
 ·simp at q
theorem lC.free_ne (S:lC X scope x0 N' fm){x:Str}(h:scope.names.lookup x=some .free):x≠x0:=λe=>by
 subst e
 rw[S.at0] at h
 cases h
theorem Mw (S:lC X scope x0 N' fm)(I:Inv X pins σ H s)(hf:∀ b∈fp,dM X pins H b)(hfs:∀ b∈fp,b < s.heap.objs.size)
  (hn:h'.Ns s.heap.objs.size λ_=>none) (hc0:h'.IsCell (s.heap.objs.size + 1) none) (hk:∀ b o,s.heap.get? b=some o->h'.get? b=some o):Inv (eQ X scope x0 N' s H s.heap.objs.size fp) [] (seeσ fm σ) H { s with heap:=h',toks:=tk }:=by
 have cl:∀{x c},(gL scope X.env).lookup x=some c->X.env.cells.lookup x=some c/\(x,NameKind.free)∈scope.names:=λh=>S.look I h
 have ltc:∀ x c,X.env.cells.lookup x=some c->c < s.heap.objs.size:=λx c e=>by
  obtain⟨v,q⟩:=I.cell x c e
  exact q.lt
 refine⟨⟨I.ok.mod,?_,I.ok.glob,I.ok.blt,aY _,λx y c h1 h2=>?_,λx hx=>?_,λx c h e=>?_,I.ok.hd,I.ok.frames,.inl rfl,λb hb=>⟨cQ (hfs b hb),λx c e z=>?_⟩,I.bs,b8 I.ok.bsz I.sz,λb o e hb=>?_,λb hb z=>?_,I.stack,I.stkFree⟩,
  rfl,I.bare,Un.kept hk,⟨_,hn,λi x v e1 e2 e3=>?_⟩,λx c e=>?_,I.hok.fresh (aY _),λx c e=>?_,λp hp=>absurd (show p∈([]:List (Addr×Obj)) from hp) (by simp),I.hok.kept hk,?_⟩
 ·exact S.kind
 ·rcases n9 h1 with⟨e1,c1⟩ | ⟨e1,c1⟩ <;> rcases n9 h2 with⟨e2,c2⟩ | ⟨e2,c2⟩
  ·rw[e1,e2]
  ·have q:=ltc _ _ (cl c2).1
   rw[c1] at q
   exact absurd q (Nat.not_lt_of_le (gB _))
  ·have q:=ltc _ _ (cl c1).1
   rw[c2] at q
   exact absurd q (Nat.not_lt_of_le (gB _))
  ·exact I.ok.inj x y c (cl c1).1 (cl c2).1
 ·have hx:(relabel scope X.env).names.lookup x=some .cell∨(relabel scope X.env).names.lookup x=some .free:=hx
  by_cases ex:x=x0
  ·subst ex
   exact⟨_,LH⟩
  have fr:scope.names.lookup x=some .free:=by
   rcases hx with hx | hx
   ·rcases rG hx with q | q
    ·exact absurd (S.one _ (ly q) rfl) ex
    ·exact q.1
   ·rcases rG hx with q | q
    ·exact q
    ·exact q.1
  have m:=ly fr
  obtain⟨c,hc⟩:=S.cl I (x,.free) m rfl
  exact⟨c,CN ex (rZ hc _ _ (.inl m))⟩
 ·have h:(x == x0)=true:=h
  have h:x=x0:=by simpa using h
  rcases n9 e with⟨_,c1⟩ | ⟨n1,_⟩
  ·show s.heap.objs.size<=c
   rw[c1]
   exact gB _
  ·exact absurd h n1
 ·rcases n9 e with⟨_,c1⟩ | ⟨_,c1⟩
  ·have q:=hfs b hb
   rw[<- z,c1] at q
   exact absurd q (Nat.not_lt_of_le (gB _))
  ·exact(hf b hb).2.2.2.2.1 x c (cl c1).1 z
 ·rcases(hf b hb).2.2.2.1 with z | z
  ·exact I.ok.noex b o e z
  ·exact absurd (gO (bU (I.ok.bs b o e).1) z) (ia _)
 ·rcases bh.mp (I.stkSub b z) with q | q
  ·exact(hf b hb).2.1 q
  ·exact(hf b hb).2.2.1 q
 ·-- a name of the def,seen in the block
  have e1:N'[i]? = some x:=e1
  have il:i < fm.length:=by rw[<- S.len]; exact(cE.mp e1).1
  have ef:fm[i]? = some fm[i]:=by simp[il]
  unfold seeσ at e2
  rw[ar,ef] at e2
  cases q:fm[i] with
  | none=>rw[q] at e2; simp at e2
  | some j =>
   rw[q] at e2 ef
   have e2:(σ[j]?).join=some v:=by simpa using e2
   have e2':σ[j]? = some (some v):=by
    cases z:σ[j]? with
    | none=>rw[z] at e2; simp at e2
    | some w=>rw[z] at e2; simp at e2; rw[e2]
   have mz:(x,some j)∈N'.zip fm:=by
    have:(N'.zip fm)[i]? = some (x,some j):=by rw[yp]; exact⟨e1,ef⟩
    exact bI this
   have ok:=jU.mp S.map _ mz
   simp only[gE,beq_iff_eq] at ok
   have kx:=vn S.free (ly ok.2) rfl
   obtain⟨m,hm,hl⟩:=I.loc
   obtain⟨u,ru,lk⟩:=hl j x v ok.1 e2' (by rcases kx with k | k; exact .inr (.inl k); exact .inr (.inr k))
   refine⟨u,ru,.inr ?_⟩
   rcases lk with⟨k,_⟩ | ⟨_,c,hc,⟨o,ho,hd⟩⟩
   ·rcases kx with z | z
    ·rw[z] at k; cases k
    ·rw[z] at k; cases k
   ·exact⟨xF ok.2,c,CN (S.free_ne ok.2) (rZ hc _ _ (.inl (ly ok.2))),o,hk _ _ ho,hd⟩
 ·rcases n9 e with⟨_,c1⟩ | ⟨_,c1⟩
  ·subst c1
   exact⟨none,hc0⟩
  ·obtain⟨v,o,ho,hd⟩:=I.cell x c (cl c1).1
   exact⟨v,o,hk _ _ ho,hd⟩
 ·rcases n9 e with⟨_,c1⟩ | ⟨_,c1⟩
  ·subst c1
   exact I.hok.fresh (gB _)
  ·exact I.freeC x c (cl c1).1
 ·show(seeσ fm σ).length=N'.length
  unfold seeσ
  rw[aI,S.len]
theorem DZ {σ':St}{s1 s2:Shared}{p1:List (Addr×Obj)}(I:Inv X pins σ H s)(hf:∀ b∈fp,dM X pins H b)(J:Inv (eQ X scope x0 N' s H s.heap.objs.size fp) p1 σ' H' s1)(hs:s2.os=s1.os)(hg:AllBare s2.gens)
  (hh:Heap.SameBut s.heap.objs.size s1.heap s2.heap):Inv X pins σ H' s2:=by
 have un:Un (iE X.stack) fp H H' s.heap s1.heap:=J.base
 have hne:∀ b o,s.heap.get? b=some o->b≠s.heap.objs.size:=λb o e=>cQ (bU e)
 have free':H' s.heap.objs.size=none:=J.free
 refine I.call' (ch:=fp) (hs.trans J.os) ⟨λb o e n hb hx=>?_,λb o e n hb hx=>?_,un.free,λb o e hx=>?_,un.tups,un.frzs,un.tbls⟩ (λb o e=>?_) hg λb hb=>?_
 ·exact(hh.2 b (hne b o e)).trans (un.keep b o e n hb hx)
 ·obtain⟨sl,q⟩:=un.slot b o e n hb hx
  exact⟨sl,(hh.2 b (hne b o e)).trans q⟩
 ·obtain⟨o',q⟩:=un.there b o e hx
  exact⟨o',(hh.2 b (hne b o e)).trans q⟩
 ·refine(J.hok b o e).stay (λc v hc q=>(hh.2 c ?_).trans q) (λ_ q=>q) λ_ _ q=>q
  rintro rfl
  rcases hc with z | z
  ·rw[<- z,free'] at e; cases e
  ·rw[free'] at z; cases z
 ·obtain⟨_,f1,_,f3,f4,f5⟩:=hf b hb
  exact⟨f3,f1,f4,f5⟩
end
section
variable {X:Cx}{elt iter tg:Expr}{ifs:List Expr}{scope:Scope}{x0:Str}{pos:Pos}{N':List Str}{fm:List (Option Nat)}{wi:TI}{g:TG}{tt:TT}{te:TE}
theorem Mx {R:Result->Shared->Prop}{pins:List (Addr×Obj)}{σ:St}{H:Hp}{s s1:Shared}{it p C:Addr}{fp:List Addr}{tn:Nat->Heap->Prop}{J:It}{Q:Hp->Prop}{H0:Hp}{σ0:St}
  (hc:X.calm=true) (hg:PG (eQ X scope x0 N' s H C fp) tg g) (ht:iJ (eQ X scope x0 N' s H C fp) ifs tt) (he:PE (eQ X scope x0 N' s H C fp) elt te)
  (T:i5 X.prog X.w X.K tg J fp it tn) (hfp:∀{H':Hp},(∀ b∈fp,H' b=none)->∀ b∈fp,dM (eQ X scope x0 N' s H C fp) [] H' b)
  (I:Inv (eQ X scope x0 N' s H C fp) [] σ0 H0 s1) (st:tn 0 s1.heap) (hfr:∀ b∈fp,H0 b=none) (blk:iO J p g tt te σ0 H0 Q)
  (hR:∀ σ' H' s',Inv (eQ X scope x0 N' s H C fp) [] σ' H' s'->Q H'->R (.ok .next) s') :
  codeAny (model X.prog X.w) X.A (.compLoop (.ListComp elt [⟨tg,iter,ifs,0⟩] scope pos) 0 (.ref it) (.ref p) (compEnvC scope ((x0,C + 1) :: gL scope X.env) C X.env)) R s1:=by
 obtain⟨W,⟨m0,w0⟩,turn⟩:=blk
 refine codeAny_loop rfl (λn s'=>∃ i σ' H',Inv (eQ X scope x0 N' s H C fp) [] σ' H' s'/\tn i s'.heap/\(∀ b∈fp,H' b=none)/\W i n σ' H') (λn s2 hI=>?_) m0 ⟨0,σ0,H0,I,st,hfr,w0⟩
 obtain⟨i,σ2,H2,I2,st2,fr2,w2⟩:=hI
 show wpAny _ X.A ((compTurn (.ListComp elt [⟨tg,iter,ifs,0⟩] scope pos) 0 (.ref it) (.ref p) (compEnvC scope ((x0,C + 1) :: gL scope X.env) C X.env)).onRaise λx=>do noteFrame x (compEnvC scope ((x0,C + 1) :: gL scope X.env) C X.env); theTreesLotGoes x) _ _ s2
 refine wpAny_noted ?_
 rw[compTurn_list]
 have lift:∀{α:Type} {t:Sem α} {Q1 Q2:α->Shared->Prop} {E2:Value->Shared->Prop} {s':Shared},wpAny (model X.prog X.w) X.A t Q1 (λ_ _=>False) s'->(∀ a s'',Q1 a s''->Q2 a s'')->wpAny (model X.prog X.w) X.A t Q2 E2 s' :=
  λh k=>fY h k λ_ _ z=>z.elim
 rcases turn i n σ2 H2 w2 with⟨stop,qn⟩ | ⟨go,N,hN,step⟩
 ·refine aE (jA (aE (lift (T.done (eQ X scope x0 N' s H C fp) rfl rfl rfl hc i [] s2 σ2 H2 _ I2 (hfp fr2) st2 stop) λr s3 q=>?_)))
  obtain⟨hr,I3⟩:=q
  subst hr
  exact aa (hR σ2 H2 s3 I3 qn)
 ·refine aE (jA (aE (lift (T.item (eQ X scope x0 N' s H C fp) rfl rfl rfl hc i [] s2 σ2 H2 _ I2 (hfp fr2) st2 go) λr s3 q=>?_)))
  obtain⟨u,hr,h3⟩:=q
  subst hr
  refine aE (lift h3 λ_ s4 q4=>?_)
  obtain⟨x,H4,I4,r4,y4,st4,fr4⟩:=q4
  have I4':=I4.pinned (hfp fr4) (T.obj _ _ st4)
  refine aE (lift (hg _ s4 σ2 H4 x u _ I4' r4 (step x H4 y4)) λ_ s5 q5=>?_)
  obtain⟨σ5,H5,I5,q5⟩:=q5
  refine aE (lift (ht _ s5 σ5 H5 _ I5 q5) λb s6 q6=>?_)
  obtain⟨H6,I6,q6⟩:=q6
  have again:∀{σ7:St} {H7:Hp} {s7:Shared} {m':Nat},Inv (eQ X scope x0 N' s H C fp) ([] ++ kM fp s4.heap) σ7 H7 s7->W (i + 1) m' σ7 H7 ->
    ∃ i σ' H',Inv (eQ X scope x0 N' s H C fp) [] σ' H' s7/\tn i s7.heap/\(∀ b∈fp,H' b=none)/\W i m' σ' H':=λ{σ7 H7 s7 m'} I7 w7=>by
   refine⟨i + 1,σ7,H7,I7.unpinned,T.keep _ _ _ st4 λb hb o e=>(I7.pin (b,o) (eK _ (eK _ (lv hb e)))).1,λb hb=>?_,w7⟩
   obtain⟨o,e,d⟩:=T.obj _ _ st4 b hb
   exact(I7.pin (b,o) (eK _ (eK _ (lv hb e)))).2.1
  cases b with
  | false =>
   rw[aN dN] at q6
   obtain⟨m',hm,w7⟩:=hN _ _ q6
   exact aa ⟨rfl,m',hm,again I6 w7⟩
  | true =>
   rw[aP rfl] at q6
   refine aE (aE (lift (he _ s6 σ5 H6 _ I6 q6) λu s7 q7=>?_))
   obtain⟨v,H7,I7,r7,ys,hp,hz,n7⟩:=q7
   obtain⟨m',hm,w7⟩:=hN _ _ n7
   have ap:=jL (X:=eQ X scope x0 N' s H C fp) ([] ++ kM fp s4.heap) s7 σ5 H7 (.ref p) [v] (.ref p) [u] (λ_ H8=>W (i + 1) m' σ5 H8) I7 rfl (.cons r7 .nil) ⟨p,ys,v,rfl,rfl,hp,hz,w7⟩
   refine aE (lift ap λ_ s8 q8=>?_)
   obtain⟨_,H8,I8,_,w8⟩:=q8
   exact aa (aa ⟨rfl,m',hm,again I8 w8⟩)
theorem KW {M:Model}{A:Around}{E:Value->Shared->Prop}{s:Shared}{scope:Scope}{x0:Str}{globals:Addr}{cl:List (Str×Addr)}{qual:Str}{env:Env}{Q:Env->Shared->Prop}
  (hc:∀ n cl,cellsFrom n scope.names cl=(x0,n) :: cl) (hp:∀ h:Heap,pushCells h scope.names=h.push { cls:=.type "cell",data:=.cell none })
  (hQ:Q { scope,locals:=s.heap.objs.size,globals,cells:=(x0,s.heap.objs.size + 1) :: cl,qual,func:=none,code:=env.code,frame:=env.frame,builtins:=env.builtins } { s with heap:=(s.heap.push { cls:=.type "dict",data:=.dict #[] }).push { cls:=.type "cell",data:=.cell none } }) :
  wpAny M A (newFunctionEnv scope globals cl [] qual none .none (some env)) Q E s:=by
 simp only[newFunctionEnv,Option.isSome_some,jM]
 refine aE (wpAny_alloc ?_)
 refine aE (wpAny_layCells _ (λname kind cells=>by cases hkc:kind == NameKind.cell <;> simp[hkc]) _ _ _ _ ?_)
 rw[hc,hp,show({ s with heap:=s.heap.push { cls:=.type "dict",data:=.dict #[] } }:Shared).heap.objs.size=s.heap.objs.size + 1 from eL ..]
 rw[List.forIn_nil]
 exact aE (aa (aa hQ))
theorem Mz {RR:Value->Addr->Result->Shared->Prop}{pins:List (Addr×Obj)}{σ:St}{H:Hp}{s:Shared}{it:Addr}{fp:List Addr}{tn:Nat->Heap->Prop}{J:It}{Q:Addr->Hp->Prop}{E:Value->Shared->Prop}
  (hc:X.calm=true) (S:lC X scope x0 N' fm) (hg:∀ s H C fp,PG (eQ X scope x0 N' s H C fp) tg g) (ht:∀ s H C fp,iJ (eQ X scope x0 N' s H C fp) ifs tt) (he:∀ s H C fp,PE (eQ X scope x0 N' s H C fp) elt te)
  (T:i5 X.prog X.w X.K tg J fp it tn) (I:Inv X pins σ H s) (st:tn 0 s.heap) (hf:∀ b∈fp,dM X pins H b)
  (blk:∀ p,H p=none->iO J p g tt te (seeσ fm σ) (upd H p (.lst [])) (Q p))
  (hR:∀ p C H' s' (m:Str->Option Value),s'.heap.Ns C m->(∀ h',Heap.SameBut C s'.heap h'->Inv X pins σ H' { s' with heap:=h' })->dM X pins H' C->Q p H'->Inv X pins σ H' s'->RR (.ref p) C (.ok .next) s') :
  wpAny (model X.prog X.w) X.A (newList []) (λacc s₃=>wpAny (model X.prog X.w) X.A (newFunctionEnv scope X.env.globals (gL scope X.env) [] X.env.qual none .none (some X.env)) (λcenv s₄ =>
   codeAny (model X.prog X.w) X.A (.compStart (.ListComp elt [⟨tg,iter,ifs,0⟩] scope pos) 0 (.ref it) acc { cenv with scope:=relabel scope X.env }) (RR acc cenv.locals) s₄) E s₃) E s:=by
 have I1:Inv X pins σ (upd H s.heap.objs.size (.lst [])) { s with heap:=s.heap.push { cls:=.type "list",data:=.seq ([]:List Value).toArray } }:=I.lnew (t':=s.toks) .nil (bX _)
 have hb:=blk _ I.fresh
 refine pi (KW S.cells S.push ?_)
 dsimp only
 generalize hq:s.heap.push { cls:=.type "list",data:=.seq ([]:List Value).toArray }=h2 at I1 ⊢
 have hn1:((h2.push { cls:=.type "dict",data:=.dict #[] }).push { cls:=.type "cell",data:=.cell none }).Ns h2.objs.size λ_=>none:=(Heap.Ns.new h2 (.type "dict")).keeps λ_ _ e=>bj _ e
 have hc1:((h2.push { cls:=.type "dict",data:=.dict #[] }).push { cls:=.type "cell",data:=.cell none }).IsCell (h2.objs.size + 1) none:=by
  have e:=fD (h2.push { cls:=.type "dict",data:=.dict #[] }) (o:={ cls:=.type "cell",data:=.cell none }) rfl
  rw[eL] at e
  exact⟨_,e,rfl⟩
 have old:∀ b o,h2.get? b=some o->((h2.push { cls:=.type "dict",data:=.dict #[] }).push { cls:=.type "cell",data:=.cell none }).get? b=some o:=λb o e=>bj _ (bj _ e)
 generalize (h2.push { cls:=.type "dict",data:=.dict #[] }).push { cls:=.type "cell",data:=.cell none }=h1 at hn1 hc1 old ⊢
 have sz:h2.objs.size=s.heap.objs.size + 1:=by rw[<- hq,eL]
 have old0:∀ b o,s.heap.get? b=some o->h2.get? b=some o:=λb o e=>hq ▸ bj _ e
 have lt0:∀ b∈fp,b < s.heap.objs.size:=λb hb=>by
  obtain⟨o,e,_⟩:=T.obj _ _ st b hb
  exact bU e
 have hf1:∀ b∈fp,dM X pins (upd H s.heap.objs.size (.lst [])) b:=λb hb=>by
  obtain⟨f0,f⟩:=hf b hb
  exact⟨by rw[aj (cQ (lt0 b hb))]; exact f0,f⟩
 have lt2:∀ b∈fp,b < h2.objs.size:=λb hb=>by rw[sz]; exact nv (lt0 b hb)
 have J0:=Mw (s:={ s with heap:=h2 }) (h':=h1) (tk:=s.toks) (fp:=fp) S I1 hf1 lt2 hn1 hc1 old
 have st1:tn 0 h1:=T.keep _ _ _ st λb _ o e=>old b o (old0 b o e)
 have fpok:∀{H':Hp},(∀ b∈fp,H' b=none)->∀ b∈fp,dM (eQ X scope x0 N' { s with heap:=h2 } (upd H s.heap.objs.size (.lst [])) h2.objs.size fp) [] H' b:=λ{H'} hn b hb=>by
  refine⟨hn b hb,cQ (lt2 b hb),λz=>?_,.inl hb,λx c e z=>?_,λp hp=>absurd (show p∈([]:List (Addr×Obj)) from hp) (by simp)⟩
  ·rcases bh.mp (I.stkSub b z) with q | q
   ·exact(hf b hb).2.1 q
   ·exact(hf b hb).2.2.1 q
  ·rcases n9 e with⟨_,c1⟩ | ⟨_,c1⟩
   ·have q:=lt2 b hb
    rw[<- z,c1] at q
    exact absurd q (Nat.not_lt_of_le (gB _))
   ·exact(hf b hb).2.2.2.2.1 x c (S.look I c1).1 z
 have loop:=Mx (iter:=iter) (pos:=pos) (R:=RR (.ref s.heap.objs.size) h2.objs.size) (σ:=σ) (pins:=pins) hc (hg _ _ _ _) (ht _ _ _ _) (he _ _ _ _) T fpok J0 st1 (λb hb=>(hf1 b hb).1) hb λσ' H' s' Jv qv=>by
  obtain⟨m,hm,_⟩:=Jv.loc
  exact hR _ _ H' s' m hm (λh' sb=>DZ (s:={ s with heap:=h2 }) I1 hf1 Jv rfl Jv.bare sb) (I1.fpOk (aY _) Jv.free) qv (DZ (s:={ s with heap:=h2 }) I1 hf1 Jv rfl Jv.bare (Heap.SameBut.refl ..))
 exact codeAny_compStart_list loop (T.self _ 0 _ _ _ st1 loop)
theorem JA {i:Nat}{x:Str}{px spos:Pos}(hc:X.calm=true)(hN:X.N.Nodup)(hx:X.N[i]? = some x)(hl:X.env.kindOf x=some .local)(S:lC X scope x0 N' fm)(hi:PI X tg iter wi)(hg:∀ s H C fp,PG (eQ X scope x0 N' s H C fp) tg g)
  (ht:∀ s H C fp,iJ (eQ X scope x0 N' s H C fp) ifs tt) (he:∀ s H C fp,PE (eQ X scope x0 N' s H C fp) elt te) (hs:∀ x,foldedSetIterable iter X.env x=pure x:=by intro _; rfl)
  (hsw:swapsWith (.ListComp elt [⟨tg,iter,ifs,0⟩] scope pos) (some (.Name x px)) spos.line X.env=pure true:=by rfl) :
  PS X (.Assign [.Name x px] (.ListComp elt [⟨tg,iter,ifs,0⟩] scope pos) spos) (Au fm wi g tt te i):=by
 intro pins s σ H D I h
 rw[exec_Assign_Name_used _ _ _ _ hsw]
 refine aE (jA (aE ?_))
 show wpAny _ _ (comprehension (.ListComp elt [⟨tg,iter,ifs,0⟩] scope pos) scope X.env _ (newList []) false (eval iter X.env) (some (assign (.Name x px) X.env)) >>= _) _ _ s
 refine aE (aZ (tS (use:=some (assign (.Name x px) X.env)) (Q:=λ_ s'=>SP X pins D .next s') rfl hs (rY (S.cl I)) S.kind S.names
  (aZ (hi pins s σ H _ I h) λv s1 h1=>aZ h1 λitv s2 h2=>?_)) λ_ s' q=>aa (aa q))
 obtain⟨it,fp,tn,J,H2,e,I2,T,st2,f2,blk⟩:=h2
 subst e
 refine Mz (RR:=λacc C=>compPost (model X.prog X.w) X.A X.xe (some (assign (.Name x px) X.env)) (λ_ s'=>SP X pins D .next s') acc C) (Q:=λp H'=>D.nx (σ.set i (some (.ref p))) H') hc S hg ht he T I2 st2 f2 blk ?_
 intro p C H' s' m hm back fC q I'
 obtain⟨f0,f1,f2,f3,f4,f5⟩:=fC
 show wpAny _ _ (assign (.Name x px) X.env (.ref p)) _ _ s'
 refine wpAny_assign_Name (tm I' hN hx (.inl hl) (v:=.ref p) rfl (λs'' I'' ⟨a,sb,ha⟩=>?_) (.inr hl))
 have haC:C≠a:=by
  rcases ha with z | z
  ·rw[z]; exact f1
  ·exact fB (f4 x a z)
 refine⟨m,hm.sameBut sb haC,λh3 sb3=>⟨σ.set i (some (.ref p)),H',I''.turned (t':=s''.toks) (λb o hb e=>(sb3.2 b hb).trans e) f0 f1 f3 f4 f5,q⟩⟩
end
section
variable {X:Cx}
theorem Lj:∀{ss:List Int}{vs:List Value},ai (ss.map V.int) vs->IntsAre vs ss:=by
 intro ss
 induction ss with
 | nil=>intro vs h; cases h; exact .nil
 | cons x r ih =>
  intro vs h
  cases h with
  | cons hx ht =>
   obtain⟨t,rfl⟩:=hx
   exact .cons x t (ih ht)
theorem zO:∀{ss:List Int}{vs:List Value},IntsAre vs ss->ai (ss.map V.int) vs
 | _,_,.nil=>.nil
 | _,_,.cons x t r=>.cons ⟨t,rfl⟩ (zO r)
theorem NB:gZ X (.builtin "sorted") (λxs H Q=>∃(a:Addr) (ss:List Int),xs=[.ref a]/\aD X.K H a (ss.map V.int)/\ss.length < 64/\∀ p (ss':List Int),ss'.Perm ss->ss'.Pairwise (· <= ·)->H p=none->Q (.ref p) (upd H p (.lst (ss'.map V.int)))):=by
 intro pins s σ H xs us Q I r h
 obtain⟨a,ss,rfl,hq,h64,q⟩:=h
 obtain⟨u,rfl,ru⟩:=r.one
 cases ru
 obtain⟨its,rv,p,hz⟩:=I.list hq
 have ln:its.length=ss.length:=by rw[<- rv.length,aI]
 refine sorted_ints p.isList (Lj rv) (by omega) λout ss' hS' hp hs=>?_
 obtain⟨e,he⟩:=sortedAll_at s.heap its out
 have I':=I.laid (t':=s.toks) (λb o e=>sortedAll_old e) (gB _) (show dL X.prog X.w _ (sortedAll s.heap its out) (s.heap.objs.size + 1) (.lst (ss'.map V.int)) from⟨by rw[aI] at hz ⊢; rw[hp.length_eq]; exact hz,out.toList,e,zO hS',he⟩)
 exact⟨.ref (s.heap.objs.size + 1),_,I',rfl,q _ ss' hp hs (I.hok.fresh (gB _))⟩
def J1 (K:PySem.W.Frag):List V->Hp->VK->Prop:=λxs H Q=>∃(a:Addr) (bs:List Bool),xs=[.ref a]/\aD K H a (bs.map V.bl)/\Q (.bl (bs.all id)) H
theorem NG {K:PySem.W.Frag}(hK:X.K=K)(hc:X.calm=true):gZ X (.builtin "all") (J1 K):=by
 subst hK
 exact j5 hc
def kA:List V->List V->Bool
 | [],[]=>true
 | x :: xs,y :: ys=>eZ x y && kA xs ys
 | _,_=>false
theorem D0:∀ xs ys:List Str,kA (xs.map V.str) (ys.map V.str)=decide (xs=ys)
 | [],[]=>rfl
 | [],_ :: _=>rfl
 | _ :: _,[]=>rfl
 | x :: xs,y :: ys=>by
  show(eZ (V.str x) (V.str y) && kA (xs.map V.str) (ys.map V.str))=_
  rw[D0 xs ys,show eZ (V.str x) (V.str y)=(x == y) from rfl,i6]
  simp
theorem DA:∀{xs ys:List V},xs.length≠ys.length->kA xs ys=false
 | [],[],h=>absurd rfl h
 | [],_ :: _,_=>rfl
 | _ :: _,[],_=>rfl
 | x :: xs,y :: ys,h=>by
  show(eZ x y && kA xs ys)=false
  rw[DA (xs:=xs) (ys:=ys) (λz=>h (by rw[dm,dm,z])),wa]
theorem EM:∀{xs ys:List V},xs.length=ys.length->(List.range xs.length).all (λj=>eZ (xs.getD j .non) (ys.getD j .non))=kA xs ys
 | [],[],_=>rfl
 | [],_ :: _,h=>by cases h
 | _ :: _,[],h=>by cases h
 | x :: xs,y :: ys,h=>by
  have ih:=EM (xs:=xs) (ys:=ys) (by rw[dm,dm] at h; omega)
  show(List.range (xs.length + 1)).all _=(eZ x y && kA xs ys)
  rw[List.range_succ_eq_map,pV,List.all_map,<- ih]
  rfl
theorem wg:∀{xs:List V}{us:List Value},ai xs us->xs.all hW=true->∀ j (h:j < us.length),RelV (xs.getD j .non) us[j]/\hW (xs.getD j .non)=true
 | _,_,.nil,_,j,h=>absurd h (by simp)
 | x :: xs,u :: us,.cons r t,f,0,h=>by
  rw[pV,gE] at f
  exact⟨r,f.1⟩
 | x :: xs,u :: us,.cons r t,f,j + 1,h=>by
  rw[pV,gE] at f
  exact wg t f.2 j (by simpa using h)
theorem ai.len_ {xs:List V}{us:List Value}(h:ai xs us):xs.length=us.length:=by
 induction h with
 | nil=>rfl
 | cons _ _ ih=>rw[dm,dm,ih]
def Iy (K:PySem.W.Frag)(neg:Bool):R2:=λx y H Q=>∃ a b xs ys,x=.ref a/\y=.ref b/\aD K H a xs/\aD K H b ys/\xs.all hW=true/\ys.all hW=true/\Q (.bl (if neg then !kA xs ys else kA xs ys)) H
theorem JU (hu:X.A.units < cLine):d9 X (compareOp .NotEq) (Iy X.K true):=by
 intro pins s σ H x y v u Q I rx ry h
 obtain⟨a,b,xs,ys,rfl,rfl,ha,hb,fx,fy,q⟩:=h
 cases rx
 cases ry
 obtain⟨its,r1,p1,_⟩:=I.list ha
 obtain⟨its2,r2,p2,_⟩:=I.list hb
 have l1:=r1.len_
 have l2:=r2.len_
 by_cases e:xs.length=ys.length
 ·refine yi (SeqAt.RcNeAt.lists (e:=λj=>eZ (xs.getD j .non) (ys.getD j .non)) p1.isList p2.isList (by simp; omega) hu (λj h1 h2=>?_)) ⟨.bl _,H,I,rfl,?_⟩
  ·have a1:=wg r1 fx j (by simpa using h1)
   have a2:=wg r2 fy j (by simpa using h2)
   exact DD a1.1 a2.1 a1.2 a2.2
  ·rw[show its.toArray.size=xs.length by simp; omega,EM e]
   exact q
 ·refine yi (SeqAt.RcNeAt.lists_lengths p1.isList p2.isList (by simp; omega) hu) ⟨.bl true,H,I,rfl,?_⟩
  rw[DA e] at q
  exact q
end
def Dt.pyq:Dt->Dt->Bool
 | .non,.non=>true
 | .bl a,.bl b=>a == b
 | .int a,.int b=>a == b
 | .bl a,.int b=>(if a then 1 else 0) == b
 | .int a,.bl b=>a == (if b then 1 else 0)
 | .str a,.str b=>a == b
 | .lst a,.lst b=>pyqs a b
 | .tup a,.tup b=>pyqs a b
 | _,_=>false
where pyqs:List Dt->List Dt->Bool
 | [],[]=>true
 | a :: r,b :: s=>a.pyq b && pyqs r s
 | _,_=>false
theorem xJ:∀{xs ys:List Dt},xs.length≠ys.length->Dt.pyq.pyqs xs ys=false
 | [],[],h=>absurd rfl h
 | [],_ :: _,_=>by simp only[Dt.pyq.pyqs]
 | _ :: _,[],_=>by simp only[Dt.pyq.pyqs]
 | x :: xs,y :: ys,h=>by
  rw[Dt.pyq.pyqs,xJ (xs:=xs) (ys:=ys) (λz=>h (by rw[dm,dm,z])),wa]
theorem xK:∀{xs ys:List Dt},xs.length=ys.length->(List.range xs.length).all (λj=>(xs.getD j .non).pyq (ys.getD j .non))=Dt.pyq.pyqs xs ys
 | [],[],_=>by simp only[Dt.pyq.pyqs]; rfl
 | [],_ :: _,h=>by cases h
 | _ :: _,[],h=>by cases h
 | x :: xs,y :: ys,h=>by
  have ih:=xK (xs:=xs) (ys:=ys) (by rw[dm,dm] at h; omega)
  rw[Dt.pyq.pyqs,<- ih]
  show(List.range (xs.length + 1)).all _=_
  rw[List.range_succ_eq_map,pV,List.all_map]
  rfl
theorem Ax {x y:V}{u:Value}(h1:RelV x u)(h2:RelV y u):x=y:=by
 cases x <;> cases y <;> simp only[RelV] at h1 h2 <;> (try subst h1) <;> (try (obtain⟨t,rfl⟩:=h1)) <;> (try (obtain⟨t2,h2⟩:=h2)) <;> (try cases h2) <;> rfl
theorem wf:∀{xs ys:List V}{us:List Value},ai xs us->ai ys us->xs=ys
 | _,_,_,.nil,.nil=>rfl
 | _,_,_,.cons r t,.cons r' t'=>by rw[Ax r r',wf t t']
theorem Lf {h:Heap}{l:Addr}{a b:Array Value}(h1:h.IsList l a)(h2:h.IsList l b):a=b:=by
 obtain⟨o,e,_,n,d⟩:=h1
 obtain⟨o',e',_,n',d'⟩:=h2
 rw[e] at e'
 cases e'
 rw[d] at d'
 injection d'
theorem Le {h:Heap}{l:Addr}{a b:Array Value}(h1:h.IsTuple l a)(h2:h.IsTuple l b):a=b:=by
 obtain⟨o,e,_,n,d⟩:=h1
 obtain⟨o',e',_,n',d'⟩:=h2
 rw[e] at e'
 cases e'
 rw[d] at d'
 injection d'
section
variable {X:Cx}{pins:List (Addr×Obj)}{s:Shared}{σ:St}{H:Hp}
theorem DO (I:Inv X pins σ H s){x:V}{d:Dt}(h:cM X.K H x d):∀{e:Dt},cM X.K H x e->d=e:=by
 induction h with
 | non=>intro e h'; cases h'; rfl
 | bl b=>intro e h'; cases h'; rfl
 | int b=>intro e h'; cases h'; rfl
 | str b=>intro e h'; cases h'; rfl
 | @lst a xs ds h1 h2 h3 h4 ih =>
  intro e h'
  cases h' with
  | @lst _ xs' ds' g1 g2 g3 g4 =>
   obtain⟨its,r1,p1,_⟩:=I.list h1
   obtain⟨its2,r2,p2,_⟩:=I.list g1
   have e:its=its2:=by have:=Lf p1.isList p2.isList; simpa using this
   subst e
   have e:=wf r1 r2
   subst e
   congr 1
   refine List.ext_getElem (by omega) λj j1 j2=>?_
   have z1:xs[j]? = some xs[j]:=bZ (by omega)
   exact ih j _ _ z1 (bZ j1) (g4 j _ _ z1 (bZ j2))
  | @tup _ xs' ds' g1 g2 g3 g4 =>
   obtain⟨its,r1,p1,_⟩:=I.list h1
   obtain⟨its2,r2,p2,_⟩:=I.tuple g1
   exact absurd rfl (SeqAt.ne_of_list_tuple p1.isList p2)
 | @tup a xs ds h1 h2 h3 h4 ih =>
  intro e h'
  cases h' with
  | @tup _ xs' ds' g1 g2 g3 g4 =>
   obtain⟨its,r1,p1,_⟩:=I.tuple h1
   obtain⟨its2,r2,p2,_⟩:=I.tuple g1
   have e:its=its2:=by have:=Le p1 p2; simpa using this
   subst e
   have e:=wf r1 r2
   subst e
   congr 1
   refine List.ext_getElem (by omega) λj j1 j2=>?_
   have z1:xs[j]? = some xs[j]:=bZ (by omega)
   exact ih j _ _ z1 (bZ j1) (g4 j _ _ z1 (bZ j2))
  | @lst _ xs' ds' g1 g2 g3 g4 =>
   obtain⟨its,r1,p1,_⟩:=I.tuple h1
   obtain⟨its2,r2,p2,_⟩:=I.list g1
   exact absurd rfl (SeqAt.ne_of_list_tuple p2.isList p1)
mutual
theorem xL:∀ d:Dt,d.pyq d=true
 | .non=>by simp[Dt.pyq]
 | .bl _=>by simp[Dt.pyq]
 | .int _=>by simp[Dt.pyq]
 | .str _=>by simp[Dt.pyq]
 | .lst ds=>by rw[Dt.pyq]; exact xI ds
 | .tup ds=>by rw[Dt.pyq]; exact xI ds
theorem xI:∀ ds:List Dt,Dt.pyq.pyqs ds ds=true
 | []=>by simp[Dt.pyq.pyqs]
 | d :: ds=>by rw[Dt.pyq.pyqs,xL d,xI ds]; rfl
end
theorem DM (I:Inv X pins σ H s){x:V}{d e:Dt}(h:cM X.K H x d)(h':cM X.K H x e):d.pyq e=true:=by
 rw[DO I h h']; exact xL e
theorem tU {xs:List V}{us:List Value}(h:ai xs us)(j:Nat)(hj:j < us.length)(hx:j < xs.length):RelV xs[j] us[j]:=by
 obtain⟨u,h1,h2⟩:=ai.get h (bZ hx)
 rw[bZ hj] at h1
 cases h1
 exact h2
theorem MP (I:Inv X pins σ H s){x:V}{d:Dt}(h:cM X.K H x d):∀{y:V}{e:Dt},cM X.K H y e->∀{A:Around}{u v:Value},A.units + d.deep < cLine->RelV x u->RelV y v->SeqAt.EqAt A s u v (d.pyq e):=by
 induction h with
 | non =>
  intro y e h' A u v hu ru rv
  cases ru
  cases h' with
  | non=>cases rv; exact SeqAt.EqAt.same _
  | bl b=>cases rv; exact SeqAt.EqAt.none_bool b
  | int b=>obtain⟨t,rfl⟩:=rv; exact SeqAt.EqAt.none_int b t
  | str b=>obtain⟨t,rfl⟩:=rv; exact SeqAt.EqAt.none_str b t
  | lst g1=>cases rv; obtain⟨_,_,p,_⟩:=I.list g1; exact SeqAt.EqAt.none_list p.isList (by omega)
  | tup g1=>cases rv; obtain⟨_,_,p,_⟩:=I.tuple g1; exact SeqAt.EqAt.none_tuple p (by omega)
 | bl a =>
  intro y e h' A u v hu ru rv
  cases ru
  cases h' with
  | non=>cases rv; exact SeqAt.EqAt.bool_none a
  | bl b=>cases rv; exact SeqAt.EqAt.bool_bool a b
  | int b=>obtain⟨t,rfl⟩:=rv; exact SeqAt.EqAt.bool_int a b t
  | str b=>obtain⟨t,rfl⟩:=rv; exact SeqAt.EqAt.bool_str a b t
  | lst g1=>cases rv; obtain⟨_,_,p,_⟩:=I.list g1; exact SeqAt.EqAt.bool_list a p.isList (by omega)
  | tup g1=>cases rv; obtain⟨_,_,p,_⟩:=I.tuple g1; exact SeqAt.EqAt.bool_tuple a p (by omega)
 | int a =>
  intro y e h' A u v hu ru rv
  obtain⟨t',rfl⟩:=ru
  cases h' with
  | non=>cases rv; exact SeqAt.EqAt.int_none a t'
  | bl b=>cases rv; exact SeqAt.EqAt.int_bool a t' b
  | int b=>obtain⟨t,rfl⟩:=rv; exact SeqAt.EqAt.int_int a t' b t
  | str b=>obtain⟨t,rfl⟩:=rv; exact SeqAt.EqAt.int_str a t' b t
  | lst g1=>cases rv; obtain⟨_,_,p,_⟩:=I.list g1; exact SeqAt.EqAt.int_list a t' p.isList (by omega)
  | tup g1=>cases rv; obtain⟨_,_,p,_⟩:=I.tuple g1; exact SeqAt.EqAt.int_tuple a t' p (by omega)
 | str a =>
  intro y e h' A u v hu ru rv
  obtain⟨t',rfl⟩:=ru
  cases h' with
  | non=>cases rv; exact SeqAt.EqAt.str_none a t'
  | bl b=>cases rv; exact SeqAt.EqAt.str_bool a t' b
  | int b=>obtain⟨t,rfl⟩:=rv; exact SeqAt.EqAt.str_int a t' b t
  | str b=>obtain⟨t,rfl⟩:=rv; exact SeqAt.EqAt.str_str a t' b t
  | lst g1=>cases rv; obtain⟨_,_,p,_⟩:=I.list g1; exact SeqAt.EqAt.str_list a t' p.isList (by omega)
  | tup g1=>cases rv; obtain⟨_,_,p,_⟩:=I.tuple g1; exact SeqAt.EqAt.str_tuple a t' p (by omega)
 | @lst a xs ds h1 h2 h3 h4 ih =>
  intro y e h' A u v hu ru rv
  cases ru
  obtain⟨its,r1,p1,_⟩:=I.list h1
  have l1:=r1.len_
  have hd:A.units + (1 + Dt.deep.deeps ds) < cLine:=hu
  cases h' with
  | non=>cases rv; exact SeqAt.EqAt.list_none p1.isList (by omega)
  | bl b=>cases rv; exact SeqAt.EqAt.list_bool b p1.isList (by omega)
  | int b=>obtain⟨t,rfl⟩:=rv; exact SeqAt.EqAt.list_int b t p1.isList (by omega)
  | str b=>obtain⟨t,rfl⟩:=rv; exact SeqAt.EqAt.list_str b t p1.isList (by omega)
  | @tup b _ _ g1 =>
   cases rv
   obtain⟨_,_,p2,_⟩:=I.tuple g1
   exact SeqAt.EqAt.of_refs (SeqAt.ne_of_list_tuple p1.isList p2) (SeqAt.RcAt.list_tuple p1.isList p2 (by omega))
  | @lst b xs' ds' g1 g2 g3 g4 =>
   cases rv
   by_cases ab:a=b
   ·subst ab
    rw[DM I (.lst h1 h2 h3 h4) (.lst g1 g2 g3 g4)]
    exact SeqAt.EqAt.same _
   obtain⟨its2,r2,p2,_⟩:=I.list g1
   have l2:=r2.len_
   refine SeqAt.EqAt.of_refs ab ?_
   by_cases el:ds.length=ds'.length
   ·have:=SeqAt.RcAt.lists (A:=A) (s:=s) (e:=λj=>(ds.getD j .non).pyq (ds'.getD j .non)) p1.isList p2.isList (by simp; omega) (by omega) (λj j1 j2=>by
     have j1:j < its.length:=by simpa using j1
     have j2:j < its2.length:=by simpa using j2
     have z1:xs[j]? = some xs[j]:=bZ (by omega)
     have z2:ds[j]? = some ds[j]:=bZ (by omega)
     have z3:ds'[j]? = some ds'[j]:=bZ (by omega)
     have z4:xs'[j]? = some xs'[j]:=bZ (by omega)
     rw[ib,ib,z2,z3]
     have dd:=rX z2
     refine ih j _ _ z1 z2 (g4 j _ _ z4 z3) ?_ (by simpa using tU r1 j j1 (by omega)) (by simpa using tU r2 j j2 (by omega))
     show A.units + 1 + _ < cLine
     omega)
    rw[show its.toArray.size=ds.length by simp; omega,xK el] at this
    exact this
   ·rw[Dt.pyq,xJ el]
    exact SeqAt.RcAt.lists_lengths p1.isList p2.isList (by simp; omega) (by omega)
 | @tup a xs ds h1 h2 h3 h4 ih =>
  intro y e h' A u v hu ru rv
  cases ru
  obtain⟨its,r1,p1,_⟩:=I.tuple h1
  have l1:=r1.len_
  have hd:A.units + (1 + Dt.deep.deeps ds) < cLine:=hu
  cases h' with
  | non=>cases rv; exact SeqAt.EqAt.tuple_none p1 (by omega)
  | bl b=>cases rv; exact SeqAt.EqAt.tuple_bool b p1 (by omega)
  | int b=>obtain⟨t,rfl⟩:=rv; exact SeqAt.EqAt.tuple_int b t p1 (by omega)
  | str b=>obtain⟨t,rfl⟩:=rv; exact SeqAt.EqAt.tuple_str b t p1 (by omega)
  | @lst b _ _ g1 =>
   cases rv
   obtain⟨_,_,p2,_⟩:=I.list g1
   exact SeqAt.EqAt.of_refs (λw=>SeqAt.ne_of_list_tuple p2.isList p1 w.symm) (SeqAt.RcAt.tuple_list p1 p2.isList (by omega))
  | @tup b xs' ds' g1 g2 g3 g4 =>
   cases rv
   by_cases ab:a=b
   ·subst ab
    rw[DM I (.tup h1 h2 h3 h4) (.tup g1 g2 g3 g4)]
    exact SeqAt.EqAt.same _
   obtain⟨its2,r2,p2,_⟩:=I.tuple g1
   have l2:=r2.len_
   refine SeqAt.EqAt.of_refs ab ?_
   have:=SeqAt.RcAt.tuples (A:=A) (s:=s) (e:=λj=>(ds.getD j .non).pyq (ds'.getD j .non)) p1 p2 (by omega) (λj j1 j2=>by
     have j1:j < its.length:=by simpa using j1
     have j2:j < its2.length:=by simpa using j2
     have z1:xs[j]? = some xs[j]:=bZ (by omega)
     have z2:ds[j]? = some ds[j]:=bZ (by omega)
     have z3:ds'[j]? = some ds'[j]:=bZ (by omega)
     have z4:xs'[j]? = some xs'[j]:=bZ (by omega)
     rw[ib,ib,z2,z3]
     have dd:=rX z2
     refine ih j _ _ z1 z2 (g4 j _ _ z4 z3) ?_ (by simpa using tU r1 j j1 (by omega)) (by simpa using tU r2 j j2 (by omega))
     show A.units + 1 + _ < cLine
     omega)
   by_cases el:ds.length=ds'.length
   ·rw[show its.toArray.size=ds.length by simp; omega,show its2.toArray.size=ds.length by simp; omega,Nat.min_self,xK el,iH,mO] at this
    exact this
   ·rw[Dt.pyq,xJ el]
    have nb:(its.toArray.size == its2.toArray.size)=false:=by simp; omega
    rw[nb,wa] at this
    exact this
end
section
variable {X:Cx}
def Ix (K:PySem.W.Frag)(k:Nat)(neg:Bool):R2:=λx y H Q=>∃(a:Addr) (xs:List V) (ds:List Dt) (d:Dt),y=.ref a/\aD K H a xs/\xs.length=ds.length/\cM K H x d/\(∀(i:Nat) x d,xs[i]? = some x->ds[i]? = some d->cM K H x d/\d.deep<=k)/\Q (.bl (if neg then !(ds.any λc=>c.pyq d) else ds.any λc=>c.pyq d)) H
theorem EK {p:Value->Bool}{q:Dt->Bool}:∀{us:List Value}{ds:List Dt},us.length=ds.length->(∀(j:Nat) u d,us[j]? = some u->ds[j]? = some d->p u=q d)->us.any p=ds.any q
 | [],[],_,_=>rfl
 | [],_ :: _,h,_=>by cases h
 | _ :: _,[],h,_=>by cases h
 | u :: us,d :: ds,h,f=>by
  rw[o5,o5,EK (us:=us) (ds:=ds) (by simpa using h) (λj u d h1 h2=>f (j + 1) u d (by simpa using h1) (by simpa using h2)),f 0 u d rfl rfl]
open Classical in
noncomputable def rS (us:List Value)(ds:List Dt)(d:Dt)(u:Value):Bool:=decide (∃(j:Nat) (c:Dt),us[j]? = some u/\ds[j]? = some c/\c.pyq d=true)
open Classical in
theorem DC {pins:List (Addr×Obj)}{s:Shared}{σ:St}{H:Hp}(I:Inv X pins σ H s){xs:List V}{us:List Value}{ds:List Dt}(r:ai xs us)(hd:∀(i:Nat) x d,xs[i]? = some x->ds[i]? = some d->cM X.K H x d)(d:Dt){j:Nat}{u:Value}{c:Dt}(h1:us[j]? = some u)(h2:ds[j]? = some c):rS us ds d u=c.pyq d:=by
 have l:=r.len_
 have jl:=(cE.mp h1).1
 have z:xs[j]? = some xs[j]:=bZ (by omega)
 obtain⟨u',e1,r1⟩:=ai.get r z
 rw[h1] at e1
 cases e1
 rw[i6]
 unfold rS
 rw[dX]
 constructor
 ·rintro⟨j',c',a,b,e⟩
  have jl':=(cE.mp a).1
  have z':xs[j']? = some xs[j']:=bZ (by omega)
  obtain⟨u',e1,r2⟩:=ai.get r z'
  rw[a] at e1
  cases e1
  have q:=hd _ _ _ z' b
  rw[Ax r2 r1] at q
  rw[DO I (hd _ _ _ z h2) q]
  exact e
 ·intro e
  exact⟨j,c,h1,h2,e⟩
theorem JT {k:Nat}(hu:X.A.units + (1 + k) < cLine):d9 X (compareOp .NotIn) (Ix X.K k true):=by
 intro pins s σ H x y v u Q I rx ry h
 obtain⟨p,xs,ds,d,rfl,hq,hl,hd,hx,q⟩:=h
 cases ry
 obtain⟨its,r,pl,hz⟩:=I.list hq
 have l:=r.len_
 refine SeqAt.notIn_listAt (rS its ds d) pl.isList (λw hw=>?_) ⟨.bl _,H,I,rfl,?_⟩
 ·have hw:w∈its:=by simpa using hw
  obtain⟨j,hj⟩:=ny.mp hw
  have jl:=(cE.mp hj).1
  have z:xs[j]? = some xs[j]:=bZ (by omega)
  have z2:ds[j]? = some ds[j]:=bZ (by omega)
  obtain⟨u',e1,r1⟩:=ai.get r z
  rw[hj] at e1
  cases e1
  rw[DC I r (λi x d a b=>(hx i x d a b).1) d hj z2]
  have hh:=hx _ _ _ z z2
  refine MP I hh.1 hd ?_ r1 rx
  show X.A.units + 1 + _ < cLine
  omega
 ·rw[show its.toArray.any (rS its ds d)=its.any (rS its ds d) by simp,EK (q:=λc=>c.pyq d) (by omega) (λj u c a b=>DC I r (λi x d a b=>(hx i x d a b).1) d a b)]
  exact q
theorem GN:∀{ss:List Str}{vs:List Value},ai (ss.map V.str) vs->StrsAre vs ss:=by
 intro ss
 induction ss with
 | nil=>intro vs h; cases h; exact .nil
 | cons x r ih =>
  intro vs h
  cases h with
  | cons hx ht =>
   obtain⟨t,rfl⟩:=hx
   exact .cons x t (ih ht)
end
def rJ (a b:Str):Prop:=a.cps.toList<=b.cps.toList
theorem NQ {n:Nat}{a b:Str}(ha:a.length=n)(hb:b.length=n)(h:j9 n a b):rJ a b:=by
 obtain⟨i,hi,e,l⟩:=h
 have la:a.cps.toList.length=n:=ha
 have lb:b.cps.toList.length=n:=hb
 have ga:∀(x:Str) (j:Nat) (h:j < x.cps.toList.length),x.cps.toList[j]=ch x j:=λx j h=>by
  have h':j < x.cps.size:=h
  unfold ch
  simp[Array.getD,h']
 refine List.le_of_lt (List.lt_iff_exists.mpr (.inr ⟨i,by omega,by omega,λj hj=>?_,?_⟩))
 ·rw[ga,ga]; exact e j hj
 ·rw[ga,ga]; exact l
theorem CA:∀(fuel n r:Nat),r<=1->minRun' fuel n r<=n + r
 | 0,n,r,_=>aY _
 | fuel + 1,n,r,h=>by
  rw[minRun'_succ]
  split
  ·exact aY _
  ·have:=CA fuel (n / 2) (max r (n % 2)) (by omega)
   omega
section
variable {prog:Program}{w:World}{A:Around}{E:Value->Shared->Prop}{s:Shared}{a₀:Array Keyed}{κ:KeyKind}
theorem Im {st:SortSt}{Q:Option Nat->SortSt->Prop}(hO:κ.OneLt)(h0:KeysOf κ a₀)(h1:1<=a₀.size)(hB:SBase a₀ st)(hs:SortedToK κ (arrOf st) a₀.size)(h:Q (some a₀.size) st):wpS (model prog w) A E s (countRun' 0 a₀.size) Q st:=by
 rw[countRun0_eq]
 refine wpS_bind (wpS_ascLoopK hO h0 (aY _) (aY 1) h1 hB (λi j hij hj=>hs i j hij (by omega)) λn n1 n2 _ hor=>?_)
 have e:n=a₀.size:=hor.elim id λlt=>by
  by_cases c:n=a₀.size
  ·exact c
  ·have le:κ.blt (KK κ (arrOf st) n) (KK κ (arrOf st) (n - 1))=false:=hs (n - 1) n (by omega) (by omega)
   rw[show κ.blt (KK κ (arrOf st) n) (KK κ (arrOf st) (n - 1))=true from lt] at le
   cases le
 subst e
 dsimp only
 rw[aP (iH _)]
 exact wpS_pure h
theorem Il {st:SortSt}{Q:Unit->SortSt->Prop}(hO:κ.OneLt)(h0:KeysOf κ a₀)(hB:SBase a₀ st)(h2:2<=a₀.size)(hs:SortedToK κ (arrOf st) a₀.size)(h:∀ st',arrOf st'=arrOf st->failedOf st'=none->Q () st'):wpS (model prog w) A E s sortRuns' Q st:=by
 rw[sortRuns'_eq]
 refine wpS_bind (wpS_get ?_)
 dsimp only
 have mr:¬ a₀.size < minRun' a₀.size a₀.size 0:=Nat.not_lt.mpr (CA a₀.size a₀.size 0 (by decide))
 simp only[hB.size]
 generalize minRun' a₀.size a₀.size 0=mn at mr ⊢
 let P0:SortSt->Prop:=λst'=>arrOf st'=arrOf st/\failedOf st'=none/\pendingOf st' = #[(0,a₀.size,0)]
 refine wpS_bind (wpS_mono (wpS_forRange (I:=λx c st'=>(x=0/\c=(none,0)/\st'=st)∨(1<=x/\c=(none,a₀.size)/\P0 st')) (Q:=λc st'=>c=(none,a₀.size)/\P0 st') ?turn ?out (.inl ⟨rfl,rfl,rfl⟩)) ?cC)
 case out =>
  rintro c st' (⟨hx,_⟩ | ⟨_,hc⟩)
  ·exact absurd hx (by omega)
  ·exact hc
 case turn =>
  rintro x c st' _ hx (⟨rfl,rfl,rfl⟩ | ⟨hx1,rfl,hD⟩)
  ·dsimp only
   rw[aN (show ¬ 0 ≥ a₀.size by omega)]
   simp only[Nat.sub_zero,Nat.zero_add]
   refine wpS_bind (Im hO h0 (by omega) hB hs ?_)
   dsimp only
   rw[aN mr]
   refine wpS_bind (wpS_get ?_)
   rw[show(pendingOf st').back? = none by rw[hB.pend]; rfl]
   dsimp only
   refine wpS_bind (wpS_modify (wpS_pure (.inr ⟨aY _,rfl,rfl,hB.failed,?_⟩)))
   show(pendingOf st').push _=_
   rw[hB.pend]; rfl
  ·dsimp only
   rw[aP (aY _)]
   exact wpS_pure ⟨rfl,hD⟩
 case cC =>
  rintro c st' ⟨rfl,hD⟩
  dsimp only
  refine wpS_bind (wpS_mono (wpS_forRange (I:=λ_ c st2=>st2=st'/\c=(none,())) (Q:=λc st2=>st2=st'/\c=(none,())) ?_ (λ_ _ q=>q) ⟨rfl,rfl⟩) ?_)
  ·rintro x c st2 _ _ ⟨rfl,rfl⟩
   refine wpS_bind (wpS_get ?_)
   rw[aP (show(pendingOf st2).size<=1 by rw[hD.2.2]; exact aY 1)]
   exact wpS_pure ⟨rfl,rfl⟩
  ·rintro c st2 ⟨rfl,rfl⟩
   exact wpS_pure (h _ hD.1 hD.2.1)
theorem BG (vs:List Value):(pairsOf vs).map (·.2)=vs.toArray:=by
 apply Array.toList_inj.mp
 rw[Array.toList_map,pairsOf_toList,List.map_snd_zip (aY _)]
theorem HY (hO:κ.OneLt) {a:Addr}{vs:List Value}{n:Nat}{R:Fin->Shared->Prop}(ho:s.heap.get? a=some (seqObj "list" vs.toArray n)) (h0:KeysOf κ (pairsOf vs)) (hk:∀ x y r,vs=x :: y :: r->keyKind' (x :: y :: r).toArray=pure oneType') (hz:vs.length<=sizeLine) (hs:SortedToK κ (pairsOf vs) (pairsOf vs).size)
  (h:R (.done (.ret .none)) { s with heap:=sortedHeap s.heap a vs vs.toArray }):wpAny (model prog w) A (Builtin.«list.sort» ⟨[.ref a],[]⟩) R E s:=by
 have la:=bU ho
 have sz:vs.toArray.size<=sizeLine:=by simpa using hz
 rw[list_sort_plain]
 refine aE (listItems_at ho rfl (aE (listUpdate_at ho rfl ?_ (hsz:=sz))))
 have o1:=get?_update_seq ho (λ_=>#[])
 refine aE (seqEpoch_at o1 rfl (aE (wpAny_newTuple (aE (wpAny_newList (pj ?_))))))
 have o2:(((s.heap.update a (Obj.mapSeq λ_=>#[])).push (seqObj "tuple" vs.toArray 0)).push (seqObj "list" #[] 0)).get? a=_:=(Heap.get?_push_ne _ _ _ (by rw[size_push',Heap.size_update]; exact cQ (nv la))).trans ((Heap.get?_push_ne _ _ _ (by rw[Heap.size_update]; exact cQ la)).trans o1)
 have last:∀(st':SortSt),arrOf st'=pairsOf vs->failedOf st'=none->R (.done (.ret .none)) { s with heap:=sortedHeap s.heap a vs ((arrOf st').map (·.2)) }:=λst' e _=>by rw[e,BG]; exact h
 have cap:∀ st':SortSt,arrOf st'=pairsOf vs->((arrOf st').map (·.2)).size<=sizeLine + 1:=λst' e=>by rw[e,BG]; exact Nat.le_succ_of_le sz
 show wpAny (model prog w) A _ R E { s with heap:=((s.heap.update a (Obj.mapSeq λ_=>#[])).push (seqObj "tuple" vs.toArray 0)).push (seqObj "list" #[] 0) }
 dsimp only
 by_cases few:vs.toArray.size < 2
 ·rw[aP few,aP few]
  refine aE (aa ?_)
  rw[StateT.run_pure]
  refine aE (aa (aE (seqEpoch_at o2 rfl (aE (listUpdate_at o2 rfl ?_ (hsz2:=cap (SortSt.mk' general' (vs.toArray.zip vs.toArray) #[] 7 none) rfl))))))
  simp only[wE,mN,iw]
  exact aa (last (SortSt.mk' general' (vs.toArray.zip vs.toArray) #[] 7 none) rfl rfl)
 ·rw[aN few,aN few]
  obtain⟨x,y,r,rfl⟩:∃ x y r,vs=x :: y :: r:=by
   match vs,few with
   | [],f=>exact absurd (show 0 < 2 by decide) f
   | [_],f=>exact absurd (show 1 < 2 by decide) f
   | x :: y :: r,_=>exact⟨x,y,r,rfl⟩
  rw[hk _ _ _ rfl]
  refine aE (aa ?_)
  refine aE (fY (Il (κ:=κ) (a₀:=pairsOf (x :: y :: r)) (st:=SortSt.mk' oneType' ((x :: y :: r).toArray.zip (x :: y :: r).toArray) #[] 7 none) (Q:=λ_ st'=>arrOf st'=pairsOf (x :: y :: r)/\failedOf st'=none) hO h0 ⟨Array.Perm.refl _,rfl,rfl,rfl⟩ (by rw[pairsOf_size]; simp) hs λst' a1 a2=>⟨a1,a2⟩) ?_ λ_ _ e=>e)
  rintro⟨⟨⟩,st'⟩ s' ⟨rfl,ea,ef⟩
  dsimp only
  refine aE (seqEpoch_at o2 rfl (aE (listUpdate_at o2 rfl ?_ (hsz2:=cap st' ea))))
  rw[ef]
  simp only[wE,mN,iw]
  exact aa (last st' ea ef)
theorem HX (hO:κ.OneLt){l:Addr}{vs:List Value}{R:Value->Shared->Prop}(hl:s.heap.IsList l vs.toArray)(h0:KeysOf κ (pairsOf vs))(hk:∀ x y r,vs=x :: y :: r->keyKind' (x :: y :: r).toArray=pure oneType')(hz:vs.length<=sizeLine)(hs:SortedToK κ (pairsOf vs) (pairsOf vs).size)
  (h:R (.ref (s.heap.objs.size + 1)) { s with heap:=sortedAll s.heap vs vs.toArray }):wpAny (model prog w) A (call (.builtin "sorted") [.ref l]) R E s:=by
 refine Calls.call_function_entry kind_sorted plain_sorted entry_sorted (args_sorted1 _) ?_
 unfold Builtin.«sorted»
 refine aE (m:=checkCount "sorted" 1 1 _) (aa (aE (collect_list hl (aE (wpAny_newList ?_)) (by omega))))
 have z1:((s.heap.push (seqObj "list" #[] 0)).update s.heap.objs.size (Obj.mapSeq (· ++ vs.toArray))).objs.size=s.heap.objs.size + 1:=(Heap.size_update ..).trans (size_push' ..)
 have o1:=fD ((s.heap.push (seqObj "list" #[] 0)).update s.heap.objs.size (Obj.mapSeq (· ++ vs.toArray))) (o:=seqObj "list" vs.toArray 0) rfl
 show wpAny _ _ _ _ _ { s with heap:=((s.heap.push (seqObj "list" #[] 0)).update s.heap.objs.size (Obj.mapSeq (· ++ vs.toArray))).push (seqObj "list" vs.toArray 0) }
 rw[z1] at o1 ⊢
 exact aE (pj (lF slot_list_sort ⟨_,o1,rfl⟩ entry_list_sort (HY hO o1 h0 hk hz hs ⟨_,rfl,aa ⟨_,rfl,h⟩⟩) (args_list_sort _)))
end
theorem GO {vs:List Value}{ss:List Str}(hS:StrsAre vs ss)(h:ss.Pairwise rJ):SortedToK strKind (pairsOf vs) (pairsOf vs).size:=by
 have e:=hS.strs
 have at_:∀ i (hi:i < vs.length),KK strKind (pairsOf vs) i=(ss[i]'(by rw[<- e,aI]; exact hi)).cps.toList:=λi hi=>by
  obtain⟨x,t,ex⟩:=hS.all _ (List.getElem_mem hi)
  have hp:(pairsOf vs)[i]'(by rw[pairsOf_size]; exact hi)=(vs[i],vs[i]):=by simp[pairsOf]
  rw[ex] at hp
  rw[KK_str _ hp]
  subst e
  rw[List.getElem_map,ex]
  rfl
 intro i j hij hj
 rw[pairsOf_size] at hj
 rw[at_ i (by omega),at_ j hj]
 by_cases c:i=j
 ·subst c; exact KeyOrd.kle_refl _
 ·have:=List.pairwise_iff_getElem.mp h i j (by rw[<- e,aI]; omega) (by rw[<- e,aI]; exact hj) (by omega)
  show decide (_ < _)=false
  exact cy (List.not_lt.mpr this)
section
variable {X:Cx}
theorem NA:gZ X (.builtin "sorted") (λxs H Q=>∃(a:Addr) (ss:List Str),xs=[.ref a]/\aD X.K H a (ss.map V.str)/\ss.Pairwise rJ/\∀ p,H p=none->Q (.ref p) (upd H p (.lst (ss.map V.str)))):=by
 intro pins s σ H xs us Q I r h
 obtain⟨a,ss,rfl,hq,hs,q⟩:=h
 obtain⟨u,rfl,ru⟩:=r.one
 cases ru
 obtain⟨its,rv,p,hz⟩:=I.list hq
 have sa:=GN rv
 have ln:its.length<=sizeLine:=by rw[<- rv.length]; exact hz
 refine HX strKind_oneLt p.isList sa.keysOf (λx y r e=>keyKind_strs (by rw[<- e]; exact sa)) ln (GO sa hs) ?_
 obtain⟨e,he⟩:=sortedAll_at s.heap its its.toArray
 have I':=I.laid (t':=s.toks) (λb o e=>sortedAll_old e) (gB _) (show dL X.prog X.w _ (sortedAll s.heap its its.toArray) (s.heap.objs.size + 1) (.lst (ss.map V.str)) from⟨hz,its,e,rv,he⟩)
 exact⟨.ref (s.heap.objs.size + 1),_,I',rfl,q _ (I.hok.fresh (gB _))⟩
end
theorem u1 {P:List Value->Prop}(h:∀ a,P [a]):∀ us:List Value,us.length=1->P us
 | [a],_=>h a
theorem u2 {P:List Value->Prop}(h:∀ a b,P [a,b]):∀ us:List Value,us.length=2->P us
 | [a,b],_=>h a b
theorem u3 {P:List Value->Prop}(h:∀ a b c,P [a,b,c]):∀ us:List Value,us.length=3->P us
 | [a,b,c],_=>h a b c
theorem u4 {P:List Value->Prop}(h:∀ a b c d,P [a,b,c,d]):∀ us:List Value,us.length=4->P us
 | [a,b,c,d],_=>h a b c d
theorem u5 {P:List Value->Prop}(h:∀ a b c d e,P [a,b,c,d,e]):∀ us:List Value,us.length=5->P us
 | [a,b,c,d,e],_=>h a b c d e
theorem u6 {P:List Value->Prop}(h:∀ a b c d e f,P [a,b,c,d,e,f]):∀ us:List Value,us.length=6->P us
 | [a,b,c,d,e,f],_=>h a b c d e f
end L2
namespace K57
open PySem L2
def ak (i:Nat):Stmt:=PySem.Challenge.pw_wapentake_k57_whole_one_table_asked_over.main.body.getD i (.Pass ⟨0,0,0,0⟩)
abbrev uw:Stmt:=ak 78
abbrev kJ:Stmt:=ak 79
structure Bt (mg:Str->Option Value):Prop where
 len:mg "len" = none
 range:mg "range" = none
 all:mg "all" = none
 zip:mg "zip" = none
 abs:mg "abs" = none
 int:mg "int" = none
 str:mg "str" = none
 bool:mg "bool" = none
 list:mg "list" = none
 tuple:mg "tuple" = none
 isi:mg "isinstance" = none
section
variable {CX:gz}{P:Program}{w:World}{K:PySem.W.Frag}{mg:Str->Option Value}{base:Heap}{k:Nat}{f c:Addr}{qual:Str}{params:Arguments}{body:Expr}{scope:Scope}{cl:List (Str×Addr)}{pm ctv:Value}{N:List Str}{σ:St}{sp:Sp}
def ra (ns:List Int)(k:Nat):Int:=ns.getD k 0
def HR (K:PySem.W.Frag):Sp:=λvs H Q _=>ig λ(a:Addr) (ns:List Int) (k:Nat)=>vs=[.ref a,.int k]/\aD K H a (ns.map V.int)/\Q (.int (ra ns k)) H
theorem IY:FnScope ["_law_script", "_law_k"] ["_law_script", "_law_k"] (aS uw):={}
theorem Bl {f:Addr}{fd:FuncData}(D:Df K mg "_law_cell" uw ["_law_script", "_law_k"] f fd) (B:Bt mg):aG P w K mg base (aH P w) 1 f fd ["_law_script", "_law_k"] (HR K):=by
 refine D.F.okN IY (λvs H Q E h=>?_) (λcdv A outer s H vs Q E hr h=>?_)
 ·obtain⟨a,ns,k,rfl,_⟩:=h
  rfl
 ·obtain⟨a,ns,k,rfl,hS,q⟩:=h
  refine⟨_,aK (bJ (aw iQ (pv 1) (bC fO (by rfl) B.len d7 (aA (pv 0) aC)) (ao _))
    (aL (aX (af bN (pv 0) (pv 1) (λ_ _=>rfl)))) bO)
   (aL (aX aM)),?_⟩
  refine⟨_,rfl,_,rfl,a,_,rfl,.inl hS,_,_,rfl,rfl,_,rfl,?_⟩
  refine bG (λc=>?_) (λc=>?_)
  ·have c:(k:Int) < ((ns.map V.int).length:Int):=cw c
   rw[aI] at c
   have e:(ns.map V.int)[k]? = some (.int (ra ns k)):=by
    rw[ar,bZ (by omega)]
    simp[ra,ib,bZ (show k < ns.length by omega)]
   exact⟨_,rfl,_,rfl,a,_,_,_,rfl,rfl,hS,dv e,q⟩
  ·have c:¬ (k:Int) < ((ns.map V.int).length:Int):=λz=>c (bR z)
   rw[aI] at c
   have e:ra ns k=0:=by
    simp[ra,ib,List.getElem?_eq_none (show ns.length<=k by omega)]
   rw[e] at q
   exact q
def jK (c:Int):Int:=(c * 48271 + 11) % 2147483647
def oG (c:Int):Int:=(jK c * jK c + 40692 * jK c + c) % 2147483399
def qO (c:Int):Int:=(oG c * 16807 + jK c) % 1000000007
def ri (c:Int):Int:=if c < 0 then -c else c
def iC (c:Int):Int:=if ri c < 10 ^ 18 then oG c + 2147483399 * (qO c + 1000000007 * jK c) else ri c - 10 ^ 18
def kZ:Int->List Int->List Int
 | _,[]=>[]
 | c,p :: r=>c % p :: kZ (c / p) r
def kK (c:Int):List Int->Int
 | []=>c
 | p :: r=>kK (c / p) r
def kY (c:Int)(ps:List Int):List Int:=kZ (iC c) ps
theorem Cj:∀(ps:List Int) (c:Int),(kZ c ps).length=ps.length
 | [],_=>rfl
 | p :: r,c=>by show(kZ (c / p) r).length + 1=r.length + 1; rw[Cj r]
theorem Aw:∀(ps:List Int) (c:Int) (i:Nat) (p:Int),ps[i]? = some p->kK c (ps.take (i + 1))=kK c (ps.take i) / p
 | q :: r,c,0,p,h=>by simp at h; subst h; rfl
 | q :: r,c,i + 1,p,h=>by
  show kK (c / q) (r.take (i + 1))=kK (c / q) (r.take i) / p
  exact Aw r (c / q) i p (by simpa using h)
theorem Ci:∀(ps:List Int) (c:Int) (i:Nat) (p:Int),ps[i]? = some p->(kZ c ps).take (i + 1)=(kZ c ps).take i ++ [kK c (ps.take i) % p]
 | q :: r,c,0,p,h=>by simp at h; subst h; simp[kZ,kK]
 | q :: r,c,i + 1,p,h=>by
  show(c % q) :: (kZ (c / q) r).take (i + 1)=(c % q) :: ((kZ (c / q) r).take i ++ [kK (c / q) (r.take i) % p])
  rw[Ci r (c / q) i p (by simpa using h)]
theorem JX (c:Int):0<=jK c/\jK c < 2147483647:=⟨lA _ (by decide),lB _ (by decide)⟩
theorem FP (c:Int):0<=oG c/\oG c < 2147483399:=⟨lA _ (by decide),lB _ (by decide)⟩
theorem Hg (c:Int):0<=qO c/\qO c < 1000000007:=⟨lA _ (by decide),lB _ (by decide)⟩
def x8 (K:PySem.W.Frag):Sp:=λvs H Q _=>ig λ(c:Int) (p:Addr) (ps:List Int)=>vs=[.int c,.ref p]/\aD K H p (ps.map V.int)/\(∀ x∈ps,0 < x/\x < 1073741824)/\ps.length<=100 /\
 ∀ q H',aB H H'->H q=none->H' q=some (.lst ((kY c ps).map V.int))->Q (.ref q) H'
theorem kI:FnScope ["_law_cell_here", "_law_parts", "_law_one", "_law_two", "_law_six", "_law_found", "_law_part"] ["_law_cell_here", "_law_parts"] (aS kJ):={}
theorem oo {f:Addr}{fd:FuncData}(D:Df K mg "_law_draws" kJ ["_law_cell_here", "_law_parts"] f fd) (B:Bt mg):aG P w K mg base (aH P w) 1 f fd ["_law_cell_here", "_law_parts"] (x8 K):=by
 refine D.F.okN kI (λvs H Q E h=>?_) (λcdv A outer s H vs Q E hr h=>?_)
 ·obtain⟨c,p,ps,rfl,_⟩:=h
  rfl
 ·obtain⟨c,p,ps,rfl,hS,hps,hl,k⟩:=h
  refine⟨_,aK (vG (λσ' H'=>H'=H/\∃ x2 x3 x4,σ'=[some (.int (iC c)),some (.ref p),x2,x3,x4,none,none])
    (bJ (aw iQ (bC E5 (by rfl) B.abs PyProof.Rows.boot_abs (aA (pv 0) aC)) (am BL aM aM) (ao _))
     (aK (aq (i:=2) kI.nd rfl (Or.inl rfl) (am eE (am dG (am ju (pv 0) aM) aM) aM))
     (aK (aq (i:=3) kI.nd rfl (Or.inl rfl) (am eE (am dG (am dG (am ju (pv 2) (pv 2)) (am ju aM (pv 2))) (pv 0)) aM))
     (aK (aq (i:=4) kI.nd rfl (Or.inl rfl) (am eE (am dG (am ju (pv 3) aM) (pv 2)) aM))
     (aL (aq (i:=0) kI.nd rfl (Or.inl rfl) (am dG (pv 3) (am ju aM (am dG (pv 4) (am ju aM (pv 2))))))))))
     (aL (aq (i:=0) kI.nd rfl (Or.inl rfl) (am BJ (bC E5 (by rfl) B.abs PyProof.Rows.boot_abs (aA (pv 0) aC)) (am BL aM aM))))))
   (aK (aq (i:=5) kI.nd rfl (Or.inl rfl) (cT aC))
   (aK (dD d8 rfl (cK (pv 1)) (aU (i:=6) kI.nd rfl (Or.inl rfl))
    (aK (bd (hG mD nU nS jL (pv 5) (aA (am eE (pv 0) (pv 6)) aC)))
    (aL (aq (i:=0) kI.nd rfl (Or.inl rfl) (am kP (pv 0) (pv 6))))))
   (aL (aX (pv 5))))),?_⟩
  have b1:=JX c
  have b2:=FP c
  have b3:=Hg c
  refine⟨?_,?_⟩
  ·refine⟨_,rfl,_,rfl,_,_,rfl,rfl,⟨by decide,by decide,by decide⟩,_,_,rfl,rfl,_,rfl,?_⟩
   refine bG (λz=>?_) (λz=>?_)
   ·have z:ri c < 10 ^ 18:=cw z
    refine⟨_,rfl,_,_,rfl,rfl,.inr ⟨by decide,by decide⟩,_,_,rfl,rfl,_,_,rfl,rfl,(by show(0:Int) < 2147483647; decide),?_⟩
    refine⟨_,rfl,_,rfl,_,_,rfl,rfl,.inl ⟨?_,?_⟩,_,rfl,_,_,rfl,rfl,.inl ⟨by decide,by decide⟩,_,_,rfl,rfl,_,rfl,_,_,rfl,rfl,_,_,rfl,rfl,(by show(0:Int) < 2147483399; decide),?_⟩
    ·show -(2 ^ 64) < jK c; omega
    ·show jK c < 2 ^ 64; omega
    refine⟨_,rfl,_,_,rfl,rfl,.inr ⟨by decide,by decide⟩,_,rfl,_,_,rfl,rfl,_,_,rfl,rfl,(by show(0:Int) < 1000000007; decide),?_⟩
    refine⟨_,rfl,_,rfl,_,rfl,_,_,rfl,rfl,.inl ⟨by decide,by decide⟩,_,_,rfl,rfl,_,_,rfl,rfl,.inl ⟨by decide,by decide⟩,_,_,rfl,rfl,?_⟩
    refine⟨rfl,some (.int (jK c)),some (.int (oG c)),some (.int (qO c)),?_⟩
    have e:iC c=oG c + 2147483399 * (qO c + 1000000007 * jK c):=aP z
    rw[e]
    rfl
   ·have z:¬ ri c < 10 ^ 18:=λq=>z (bR q)
    refine⟨_,rfl,_,rfl,_,_,rfl,rfl,⟨by decide,by decide,by decide⟩,_,_,rfl,rfl,?_⟩
    refine⟨rfl,none,none,none,?_⟩
    have e:iC c=ri c - 10 ^ 18:=aN z
    rw[e]
    rfl
  ·rintro σ' H' ⟨rfl,x2,x3,x4,rfl⟩
   refine⟨bX _,λq hq=>?_⟩
   have S0:aB H' (upd H' q (.lst [])):=aB.new hq
   refine⟨_,rfl,p,rfl,⟨_,S0.seq hS⟩,jN (K:=K) (a:=p) (xs:=ps.map V.int) (λi σ H2=>∃ v,σ=[some (.int (kK (iC c) (ps.take i))),some (.ref p),x2,x3,x4,some (.ref q),v]/\aB H' H2/\H2 q=some (.lst (((kY c ps).take i).map V.int)))
    ⟨none,rfl,S0,aF⟩ (λi σ H2 _ ⟨_,_,s2,_⟩=>s2.seq hS) ?_ ?_⟩
   ·rintro i y σ H2 hi ⟨v,rfl,s2,e2⟩
    rw[ar] at hi
    cases z:ps[i]? with
    | none=>rw[z] at hi; cases hi
    | some d =>
     rw[z] at hi
     cases hi
     obtain⟨d1,d2⟩:=hps d (bI z)
     have il:i < ps.length:=(cE.mp z).1
     refine⟨_,rfl,.inl ⟨rfl,_,aD.of e2⟩,_,rfl,_,rfl,_,_,rfl,rfl,d1,q,_,_,rfl,rfl,e2,?_,?_⟩
     ·rw[aI,cZ]
      exact Hb (by omega)
     refine⟨_,rfl,_,rfl,_,_,rfl,rfl,⟨d1,d2⟩,?_⟩
     refine⟨some (.int d),?_,λb o hb=>?_,?_⟩
     ·rw[Aw ps (iC c) i d z]; rfl
     ·rw[aj (hU hb hq)]
      exact s2 b o hb
     ·rw[aF]
      show some (HO.lst _)=_
      unfold kY
      rw[Ci ps (iC c) i d z,bQ]
      rfl
   ·rintro σ H2 ⟨v,rfl,s2,e2⟩
    refine⟨_,rfl,k q H2 s2 hq ?_⟩
    rw[e2]
    have:(kY c ps).take (ps.map V.int).length=kY c ps:=kE (by unfold kY; rw[Cj,aI]; exact aY _)
    rw[this]
abbrev mf:Stmt:=ak 80
def GW (K:PySem.W.Frag):Nat->Sp
 | 0=>λ_ _ _ _=>False
 | m + 1=>λvs H Q _=>kF λ(v1 v2:V) (d1 d2:Dt)=>vs=[v1,v2]/\cM K H v1 d1/\cM K H v2 d2/\d2.deep<=m/\∀ H',aB H H'->Q (.bl (d1.eqb d2)) H'
theorem Ht:FnScope ["_law_found", "_law_due"] ["_law_found", "_law_due"] (aS mf):={}
theorem Ab {n:Nat}(h:n<=5000):n < sizeLine:=cA h (by decide)
theorem nd3:(["_law_k", "_law_found", "_law_due"]:List Str).Nodup:=by trivial
abbrev Ps:List Str:=["_law_found", "_law_due"]
theorem kR {f:Addr}{fd:FuncData}(D:Df K mg "_law_same" mf Ps f fd) (B:Bt mg) (m:Nat):aG P w K mg base (aH P w) m f fd Ps (GW K m):=by
 induction m with
 | zero=>exact OW
 | succ m G =>
  refine D.F.okN Ht (λvs H Q E h=>?_) (λcdv A outer s H vs Q E hr h=>?_)
  ·obtain⟨v1,v2,d1,d2,rfl,_⟩:=h
   rfl
  ·obtain⟨v1,v2,d1,d2,rfl,h1,h2,hd,k⟩:=h
   refine⟨_,aK (bJ (aw BM (pv 1) xR (ao _)) (aL (aX (eO BM (pv 0) xR (ao _)))) bO)
    (aK (bJ (cm (bC jP (by rfl) B.isi (by rfl) (aA (pv 1) (aA (jI (by rfl) B.str (v:=.ty "str") (u:=.type "str") (by rfl) rfl) aC))))
      (aL (aX (jr (bC jP (by rfl) B.isi (by rfl) (aA (pv 0) (aA (jI (by rfl) B.str (v:=.ty "str") (u:=.type "str") (by rfl) rfl) aC)))
       (lZ (eO cF (pv 0) (pv 1) (ao _)))))) bO)
    (aK (bJ (cm (bC jP (by rfl) B.isi (by rfl) (aA (pv 1) (aA (jI (by rfl) B.int (v:=.ty "int") (u:=.type "int") (by rfl) rfl) aC))))
      (aL (aX (jr (bC jP (by rfl) B.isi (by rfl) (aA (pv 0) (aA (jI (by rfl) B.int (v:=.ty "int") (u:=.type "int") (by rfl) rfl) aC)))
       (jr (eO cF (bC jP (by rfl) B.isi (by rfl) (aA (pv 0) (aA (jI (by rfl) B.bool (v:=.ty "bool") (u:=.type "bool") (by rfl) rfl) aC)))
         (bC jP (by rfl) B.isi (by rfl) (aA (pv 1) (aA (jI (by rfl) B.bool (v:=.ty "bool") (u:=.type "bool") (by rfl) rfl) aC))) (ao _))
        (lZ (eO cF (pv 0) (pv 1) (ao _))))))) bO)
    (aK (bJ (dw (jH (aw jt (bC jP (by rfl) B.isi (by rfl) (aA (pv 1) (aA (jI (by rfl) B.list (v:=.ty "list") (u:=.type "list") (by rfl) rfl) aC)))
         (bC jP (by rfl) B.isi (by rfl) (aA (pv 0) (aA (jI (by rfl) B.list (v:=.ty "list") (u:=.type "list") (by rfl) rfl) aC))) (ao _))
        (jk (aw jt (bC jP (by rfl) B.isi (by rfl) (aA (pv 1) (aA (jI (by rfl) B.tuple (v:=.ty "tuple") (u:=.type "tuple") (by rfl) rfl) aC)))
         (bC jP (by rfl) B.isi (by rfl) (aA (pv 0) (aA (jI (by rfl) B.tuple (v:=.ty "tuple") (u:=.type "tuple") (by rfl) rfl) aC))) (ao _)))))
      (aL (aX hJ)) bO)
    (aL (aX (jr (eO cF (bC fO (by rfl) B.len d7 (aA (pv 0) aC)) (bC fO (by rfl) B.len d7 (aA (pv 1) aC)) (ao _))
     (lZ (bC (j5 rfl) (by rfl) B.all (by rfl) (aA
      (cS (N':=["_law_k", "_law_found", "_law_due"]) (fm:=[none,some 0,some 1]) rfl ⟨rfl,by trivial,by trivial,rfl,rfl,rfl⟩
       (gH (by rfl) B.range (aA (bC fO (by rfl) B.len d7 (aA (pv 1) aC)) aC))
       (λ_ _ _ _=>aU (i:=0) nd3 rfl (Or.inl rfl)) (λ_ _ _ _=>cU)
       (λ_ _ _ _=>aO D G hr aJ (aA (af (r:=xH K) CW (pv 1) (pv 0) (λ_ _=>rfl)) (aA (af (r:=xH K) CW (pv 2) (pv 0) (λ_ _=>rfl)) aC)))) aC))))))))),?_⟩
   have kk:=h1.kdIs
   have fin:=k H (aB.refl H)
   cases h2 with
   | non =>
    refine⟨_,rfl,rfl,_,rfl,ax ⟨_,rfl,rfl,?_⟩⟩
    have e:=h1.isN
    rw[e]
    exact fin
   | str y =>
    refine⟨_,rfl,rfl,_,rfl,aW ⟨_,rfl,_,.str, "str",true,rfl,trivial,rfl,_,rfl,ax ?_⟩⟩
    cases h1 with
    | str x =>
     refine⟨_,rfl,_,.str, "str",true,rfl,trivial,rfl,_,rfl,ax ⟨_,rfl,_,rfl,rfl,?_⟩⟩
     have e:decide (V.str x=V.str y)=(Dt.str x).eqb (.str y):=by simp[Dt.eqb]
     rw[e]
     exact fin
    | non=>exact⟨_,rfl,_,.non, "str",false,rfl,kk,rfl,_,rfl,aW fin⟩
    | bl _=>exact⟨_,rfl,_,.bl, "str",false,rfl,kk,rfl,_,rfl,aW fin⟩
    | int _=>exact⟨_,rfl,_,.int, "str",false,rfl,kk,rfl,_,rfl,aW fin⟩
    | lst _ _ _ _=>exact⟨_,rfl,_,.lst, "str",false,rfl,kk,rfl,_,rfl,aW fin⟩
    | tup _ _ _ _=>exact⟨_,rfl,_,.tup, "str",false,rfl,kk,rfl,_,rfl,aW fin⟩
   | int y =>
    refine⟨_,rfl,rfl,_,rfl,aW ⟨_,rfl,_,.int, "str",false,rfl,trivial,rfl,_,rfl,aW ⟨_,rfl,_,.int, "int",true,rfl,trivial,rfl,_,rfl,ax ?_⟩⟩⟩
    cases h1 with
    | int x =>
     refine⟨_,rfl,_,.int, "int",true,rfl,trivial,rfl,_,rfl,ax ⟨_,rfl,_,.int, "bool",false,rfl,trivial,rfl,_,rfl,_,.int, "bool",false,rfl,trivial,rfl,rfl,_,rfl,ax ⟨_,rfl,_,rfl,rfl,?_⟩⟩⟩
     have e:decide (V.int x=V.int y)=(Dt.int x).eqb (.int y):=iW
     rw[e]
     exact fin
    | bl x=>exact⟨_,rfl,_,.bl, "int",true,rfl,trivial,rfl,_,rfl,ax ⟨_,rfl,_,.bl, "bool",true,rfl,trivial,rfl,_,rfl,_,.int, "bool",false,rfl,trivial,rfl,rfl,_,rfl,aW fin⟩⟩
    | non=>exact⟨_,rfl,_,.non, "int",false,rfl,kk,rfl,_,rfl,aW fin⟩
    | str _=>exact⟨_,rfl,_,.str, "int",false,rfl,kk,rfl,_,rfl,aW fin⟩
    | lst _ _ _ _=>exact⟨_,rfl,_,.lst, "int",false,rfl,kk,rfl,_,rfl,aW fin⟩
    | tup _ _ _ _=>exact⟨_,rfl,_,.tup, "int",false,rfl,kk,rfl,_,rfl,aW fin⟩
   | bl y =>
    refine⟨_,rfl,rfl,_,rfl,aW ⟨_,rfl,_,.bl, "str",false,rfl,trivial,rfl,_,rfl,aW ⟨_,rfl,_,.bl, "int",true,rfl,trivial,rfl,_,rfl,ax ?_⟩⟩⟩
    cases h1 with
    | bl x =>
     refine⟨_,rfl,_,.bl, "int",true,rfl,trivial,rfl,_,rfl,ax ⟨_,rfl,_,.bl, "bool",true,rfl,trivial,rfl,_,rfl,_,.bl, "bool",true,rfl,trivial,rfl,rfl,_,rfl,ax ⟨_,rfl,_,rfl,rfl,?_⟩⟩⟩
     have e:decide (V.bl x=V.bl y)=(Dt.bl x).eqb (.bl y):=yK
     rw[e]
     exact fin
    | int x=>exact⟨_,rfl,_,.int, "int",true,rfl,trivial,rfl,_,rfl,ax ⟨_,rfl,_,.int, "bool",false,rfl,trivial,rfl,_,rfl,_,.bl, "bool",true,rfl,trivial,rfl,rfl,_,rfl,aW fin⟩⟩
    | non=>exact⟨_,rfl,_,.non, "int",false,rfl,kk,rfl,_,rfl,aW fin⟩
    | str _=>exact⟨_,rfl,_,.str, "int",false,rfl,kk,rfl,_,rfl,aW fin⟩
    | lst _ _ _ _=>exact⟨_,rfl,_,.lst, "int",false,rfl,kk,rfl,_,rfl,aW fin⟩
    | tup _ _ _ _=>exact⟨_,rfl,_,.tup, "int",false,rfl,kk,rfl,_,rfl,aW fin⟩
   | @lst a2 xs2 ds2 hq2 hl2 hz2 hx2 =>
    have k2:kdIs K H (.ref a2) .lst:=⟨_,hq2⟩
    refine⟨_,rfl,rfl,_,rfl,aW ⟨_,rfl,_,.lst, "str",false,rfl,k2,rfl,_,rfl,aW ⟨_,rfl,_,.lst, "int",false,rfl,k2,rfl,_,rfl,aW ⟨_,rfl,_,.lst, "list",true,rfl,k2,rfl,?_⟩⟩⟩⟩
    cases h1 with
    | non=>exact⟨_,rfl,_,.non, "list",false,rfl,kk,rfl,rfl,_,rfl,ax (ax fin)⟩
    | bl _=>exact⟨_,rfl,_,.bl, "list",false,rfl,kk,rfl,rfl,_,rfl,ax (ax fin)⟩
    | int _=>exact⟨_,rfl,_,.int, "list",false,rfl,kk,rfl,rfl,_,rfl,ax (ax fin)⟩
    | str _=>exact⟨_,rfl,_,.str, "list",false,rfl,kk,rfl,rfl,_,rfl,ax (ax fin)⟩
    | tup _ _ _ _=>exact⟨_,rfl,_,.tup, "list",false,rfl,kk,rfl,rfl,_,rfl,ax (ax fin)⟩
    | @lst a1 xs1 ds1 hq1 hl1 hz1 hx1 =>
     refine⟨_,rfl,_,.lst, "list",true,rfl,kk,rfl,rfl,_,rfl,aW ⟨_,rfl,_,.lst, "tuple",false,rfl,k2,rfl,_,rfl,_,.lst, "tuple",false,rfl,kk,rfl,rfl,_,rfl,aW ?_⟩⟩
     refine⟨_,rfl,a1,_,rfl,.inl hq1,_,rfl,a2,_,rfl,.inl hq2,rfl,_,rfl,?_⟩
     refine bG (λc=>?_) (λc=>?_)
     ·have c:V.int ((xs1.length:Nat):Int)=V.int ((xs2.length:Nat):Int):=cw c
      have el:ds1.length=ds2.length:=by injection c with c; omega
      cases m with
      | zero=>exact absurd hd (by show ¬ 1 + _<=0; omega)
      | succ m =>
       refine⟨_,rfl,a2,_,rfl,.inl hq2,_,rfl,by omega,by rw[hl2]; omega,λp hp=>?_⟩
       have en:((xs2.length:Nat):Int).toNat=ds2.length:=by omega
       rw[en]
       refine kB (λi σ H2=>∃ v,σ=[v,some (.ref a1),some (.ref a2)]/\aB H H2/\H2 p=some (.lst ((((ds1.zip ds2).map λq=>q.1.eqb q.2).take i).map V.bl))) ⟨none,rfl,aB.new hp,aF⟩ ?_ ?_
       ·rintro i σ H2 hi ⟨v,rfl,s2,e2⟩
        have e1:ds1[i]? = some ds1[i]:=bZ (by omega)
        have e2':ds2[i]? = some ds2[i]:=bZ hi
        have f1:xs1[i]? = some xs1[i]:=bZ (by omega)
        have f2:xs2[i]? = some xs2[i]:=bZ (by omega)
        have ei:(0:Int) + (i:Int)=(i:Int):=j6 _
        refine eN ⟨_,rfl,_,rfl,.inl ⟨a1,_,_,_,rfl,rfl,s2.seq hq1,(by rw[ei]; exact dv f1),_,rfl,_,rfl,.inl ⟨a2,_,_,_,rfl,rfl,s2.seq hq2,(by rw[ei]; exact dv f2),?_⟩⟩⟩
        refine⟨_,_,_,_,rfl,(hx1 i _ _ f1 e1).mono s2,(hx2 i _ _ f2 e2').mono s2,?_,λH3 s3=>?_⟩
        ·have h1:1 + Dt.deep.deeps ds2<=m + 1:=hd
         have:=rX e2'
         omega
        ·refine⟨_,s3 p _ e2,?_,_,rfl,λb o hb=>?_,?_⟩
         ·rw[aI,cZ]
          exact Ab (by omega)
         ·rw[aj (hU hb hp)]
          exact s3 b o (s2 b o hb)
         ·rw[aF]
          have z:((ds1.zip ds2).map λq=>q.1.eqb q.2)[i]? = some (ds1[i].eqb ds2[i]):=by
           rw[ar,(yp (z:=(ds1[i],ds2[i]))).mpr ⟨e1,e2'⟩]
           rfl
          rw[dA,z,bQ]
          rfl
       ·rintro σ H2 ⟨v,rfl,s2,e2⟩
        have ek:((ds1.zip ds2).map λq=>q.1.eqb q.2).take ds2.length=((ds1.zip ds2).map λq=>q.1.eqb q.2):=kE (by rw[aI,List.length_zip]; omega)
        rw[ek] at e2
        refine⟨p,_,rfl,aD.of e2,?_⟩
        have:=k H2 s2
        have ee:(Dt.lst ds1).eqb (Dt.lst ds2)=((ds1.zip ds2).map λq=>q.1.eqb q.2).all id:=yE ds1 ds2 el
        rw[ee] at this
        exact this
     ·have el:ds1.length≠ds2.length:=λz=>c (bR (by rw[hl1,hl2,z]))
      have ee:(Dt.lst ds1).eqb (Dt.lst ds2)=false:=yD ds1 ds2 el
      rw[ee] at fin
      exact fin
   | @tup a2 xs2 ds2 hq2 hl2 hz2 hx2 =>
    have k2:kdIs K H (.ref a2) .tup:=⟨_,hq2⟩
    refine⟨_,rfl,rfl,_,rfl,aW ⟨_,rfl,_,.tup, "str",false,rfl,k2,rfl,_,rfl,aW ⟨_,rfl,_,.tup, "int",false,rfl,k2,rfl,_,rfl,aW ⟨_,rfl,_,.tup, "list",false,rfl,k2,rfl,?_⟩⟩⟩⟩
    cases h1 with
    | non=>exact⟨_,rfl,_,.non, "list",false,rfl,kk,rfl,rfl,_,rfl,aW ⟨_,rfl,_,.tup, "tuple",true,rfl,k2,rfl,_,rfl,_,.non, "tuple",false,rfl,kk,rfl,rfl,_,rfl,ax fin⟩⟩
    | bl _=>exact⟨_,rfl,_,.bl, "list",false,rfl,kk,rfl,rfl,_,rfl,aW ⟨_,rfl,_,.tup, "tuple",true,rfl,k2,rfl,_,rfl,_,.bl, "tuple",false,rfl,kk,rfl,rfl,_,rfl,ax fin⟩⟩
    | int _=>exact⟨_,rfl,_,.int, "list",false,rfl,kk,rfl,rfl,_,rfl,aW ⟨_,rfl,_,.tup, "tuple",true,rfl,k2,rfl,_,rfl,_,.int, "tuple",false,rfl,kk,rfl,rfl,_,rfl,ax fin⟩⟩
    | str _=>exact⟨_,rfl,_,.str, "list",false,rfl,kk,rfl,rfl,_,rfl,aW ⟨_,rfl,_,.tup, "tuple",true,rfl,k2,rfl,_,rfl,_,.str, "tuple",false,rfl,kk,rfl,rfl,_,rfl,ax fin⟩⟩
    | lst _ _ _ _=>exact⟨_,rfl,_,.lst, "list",true,rfl,kk,rfl,rfl,_,rfl,ax (ax fin)⟩
    | @tup a1 xs1 ds1 hq1 hl1 hz1 hx1 =>
     refine⟨_,rfl,_,.tup, "list",false,rfl,kk,rfl,rfl,_,rfl,aW ⟨_,rfl,_,.tup, "tuple",true,rfl,k2,rfl,_,rfl,_,.tup, "tuple",true,rfl,kk,rfl,rfl,_,rfl,aW ?_⟩⟩
     refine⟨_,rfl,a1,_,rfl,.inr hq1,_,rfl,a2,_,rfl,.inr hq2,rfl,_,rfl,?_⟩
     refine bG (λc=>?_) (λc=>?_)
     ·have c:V.int ((xs1.length:Nat):Int)=V.int ((xs2.length:Nat):Int):=cw c
      have el:ds1.length=ds2.length:=by injection c with c; omega
      cases m with
      | zero=>exact absurd hd (by show ¬ 1 + _<=0; omega)
      | succ m =>
       refine⟨_,rfl,a2,_,rfl,.inr hq2,_,rfl,by omega,by rw[hl2]; omega,λp hp=>?_⟩
       have en:((xs2.length:Nat):Int).toNat=ds2.length:=by omega
       rw[en]
       refine kB (λi σ H2=>∃ v,σ=[v,some (.ref a1),some (.ref a2)]/\aB H H2/\H2 p=some (.lst ((((ds1.zip ds2).map λq=>q.1.eqb q.2).take i).map V.bl))) ⟨none,rfl,aB.new hp,aF⟩ ?_ ?_
       ·rintro i σ H2 hi ⟨v,rfl,s2,e2⟩
        have e1:ds1[i]? = some ds1[i]:=bZ (by omega)
        have e2':ds2[i]? = some ds2[i]:=bZ hi
        have f1:xs1[i]? = some xs1[i]:=bZ (by omega)
        have f2:xs2[i]? = some xs2[i]:=bZ (by omega)
        have ei:(0:Int) + (i:Int)=(i:Int):=j6 _
        refine eN ⟨_,rfl,_,rfl,.inr (.inl ⟨a1,_,_,_,rfl,rfl,s2.seqT hq1,(by rw[ei]; exact dv f1),_,rfl,_,rfl,.inr (.inl ⟨a2,_,_,_,rfl,rfl,s2.seqT hq2,(by rw[ei]; exact dv f2),?_⟩)⟩)⟩
        refine⟨_,_,_,_,rfl,(hx1 i _ _ f1 e1).mono s2,(hx2 i _ _ f2 e2').mono s2,?_,λH3 s3=>?_⟩
        ·have h1:1 + Dt.deep.deeps ds2<=m + 1:=hd
         have:=rX e2'
         omega
        ·refine⟨_,s3 p _ e2,?_,_,rfl,λb o hb=>?_,?_⟩
         ·rw[aI,cZ]
          exact Ab (by omega)
         ·rw[aj (hU hb hp)]
          exact s3 b o (s2 b o hb)
         ·rw[aF]
          have z:((ds1.zip ds2).map λq=>q.1.eqb q.2)[i]? = some (ds1[i].eqb ds2[i]):=by
           rw[ar,(yp (z:=(ds1[i],ds2[i]))).mpr ⟨e1,e2'⟩]
           rfl
          rw[dA,z,bQ]
          rfl
       ·rintro σ H2 ⟨v,rfl,s2,e2⟩
        have ek:((ds1.zip ds2).map λq=>q.1.eqb q.2).take ds2.length=((ds1.zip ds2).map λq=>q.1.eqb q.2):=kE (by rw[aI,List.length_zip]; omega)
        rw[ek] at e2
        refine⟨p,_,rfl,aD.of e2,?_⟩
        have:=k H2 s2
        have ee:(Dt.tup ds1).eqb (Dt.tup ds2)=((ds1.zip ds2).map λq=>q.1.eqb q.2).all id:=yE ds1 ds2 el
        rw[ee] at this
        exact this
     ·have el:ds1.length≠ds2.length:=λz=>c (bR (by rw[hl1,hl2,z]))
      have ee:(Dt.tup ds1).eqb (Dt.tup ds2)=false:=yD ds1 ds2 el
      rw[ee] at fin
      exact fin
abbrev qY:Stmt:=ak 82
abbrev uz:Stmt:=ak 84
theorem iu {α:Type}(f:Nat->α)(i:Nat):(List.range i).map f ++ [f i]=(List.range (i + 1)).map f:=by rw[mH,bQ]; rfl
theorem h9 (n:Nat){α:Type}(f:Nat->α)(h:n<=1000):((List.range n).map f).length < sizeLine:=by rw[aI,dk]; exact cA h (by decide)
theorem xr (f:Nat->Bool)(n:Nat):((List.range n).map λj=>V.bl (f j))=((List.range n).map f).map V.bl:=by rw[gR]; rfl
def j8 (c:Nat->Nat):Prop:=∀ i,c i=121∨c i=110
def hv (d:Int)(x:Int):Nat->Int
 | 0=>x
 | i + 1=>hv d x i / d
def nL (x:Int)(i:Nat):Nat:=if hv 2 x i % 2=0 then 110 else 121
theorem NO (x:Int):j8 (nL x):=λi=>by unfold nL; split <;> simp
theorem Bo (y:Int):cL ("ny" : Str).cps.toList (y % 2)=some (if y % 2=0 then 110 else 121):=by
 by_cases h:y % 2=0
 ·rw[aP h,h]; rfl
 ·have:y % 2=1:=by omega
  rw[aN h,this]; rfl
theorem jD (n:Nat)(c:Nat->Nat)(h:n<=1000):(tx n c).length<=sizeLine:=by rw[ce]; exact b8 h (by decide)
theorem mW (n:Nat)(c:Nat->Nat)(d:Nat)(h:n<=1000):(tx n c).length + (⟨#[d]⟩:Str).length<=sizeLine:=by
 rw[ce]
 exact b8 (show n + 1<=1001 by omega) (by decide)
def df (c:Nat):Nat:=if c=121 then 110 else 121
def Gz:Sp:=λvs H Q _=>∃ c,vs=[s1 c]/\Q (s1 (df c)) H
theorem Hy:FnScope ["_law_sign"] ["_law_sign"] (aS qY):={}
theorem BX {f:Addr}{fd:FuncData}(D:Df K mg "_law_not" qY ["_law_sign"] f fd) (B:Bt mg):aG P w K mg base (aH P w) 1 f fd ["_law_sign"] Gz:=by
 refine D.F.okN Hy (λvs H Q E h=>?_) (λcdv A outer s H vs Q E hr h=>?_)
 ·obtain⟨c,rfl,_⟩:=h
  rfl
 ·obtain⟨c,rfl,q⟩:=h
  refine⟨_,aL (aX (iB (aw cF (pv 0) av (ao _)) av av)),?_⟩
  refine⟨_,rfl,rfl,_,rfl,?_⟩
  refine bG (λz=>?_) (λz=>?_)
  ·have z:s1 c=s1 121:=cw z
   rw[lW] at z
   rw[z] at q
   exact q
  ·have z:¬ s1 c=s1 121:=λy=>z (bR y)
   rw[lW] at z
   have e:df c=121:=aN z
   rw[e] at q
   exact q
def HU:Sp:=λvs H Q _=>iL λ(x:Int) (n:Nat)=>vs=[.int x,.int n]/\n<=100/\Q (.str (tx n (nL x))) H
abbrev Nb:List Str:=["_law_number", "_law_n", "_law_row", "_law_k"]
theorem qT:FnScope Nb ["_law_number", "_law_n"] (aS uz):={}
theorem Bm {f:Addr}{fd:FuncData}(D:Df K mg "_law_bits" uz ["_law_number", "_law_n"] f fd) (B:Bt mg):aG P w K mg base (aH P w) 1 f fd ["_law_number", "_law_n"] HU:=by
 refine D.F.okN qT (λvs H Q E h=>?_) (λcdv A outer s H vs Q E hr h=>?_)
 ·obtain⟨x,n,rfl,_⟩:=h
  rfl
 ·obtain⟨x,n,rfl,hn,q⟩:=h
  refine⟨_,aK (aq (i:=2) qT.nd rfl (Or.inl rfl) av)
   (aK (dD d8 rfl (gH (by rfl) B.range (aA (pv 1) aC)) (aU (i:=3) qT.nd rfl (Or.inl rfl))
    (aK (aq (i:=2) qT.nd rfl (Or.inl rfl) (am kQ (pv 2) (af dS av (am eE (pv 0) aM) (λ_ _=>rfl))))
    (aL (aq (i:=0) qT.nd rfl (Or.inl rfl) (am kP (pv 0) aM)))))
   (aL (aX (pv 2)))),?_⟩
  refine⟨_,rfl,_,rfl,by omega,by omega,?_⟩
  have en:((n:Nat):Int).toNat=n:=by omega
  rw[en]
  refine jy (λi σ H2=>∃ v,σ=[some (.int (hv 2 x i)),some (.int n),some (.str (tx i (nL x))),v]/\H2=H) ⟨none,rfl,rfl⟩ ?_ ?_
  ·rintro i σ H2 hi ⟨v,rfl,rfl⟩
   refine⟨_,rfl,_,rfl,_,_,rfl,rfl,(by show(0:Int) < 2; decide),_,_,_,rfl,rfl,(by decide),Bo _,_,_,rfl,rfl,mW i _ _ (by omega),?_⟩
   refine⟨_,rfl,_,_,rfl,rfl,⟨by decide,by decide⟩,?_⟩
   refine⟨some (.int (0 + i)),?_,rfl⟩
   rw[oF (show(if hv 2 x i % 2=0 then 110 else 121)=nL x i from rfl)]
   rfl
  ·rintro σ H2 ⟨v,rfl,rfl⟩
   exact⟨_,rfl,q⟩
abbrev uk:Stmt:=ak 83
def cb (b:Bool):Nat:=if b then 121 else 110
theorem yP (f:Nat->Bool):j8 λj=>cb (f j):=λj=>by
 show cb (f j)=121∨cb (f j)=110
 cases f j
 ·exact .inr rfl
 ·exact .inl rfl
theorem xg (b:Bool):cL ("ny" : Str).cps.toList (if b then 1 else 0)=some (cb b):=by cases b <;> rfl
theorem n6 {H:Hp}{r p:Addr}{o:HO}(h:upd H r o p=none):H p=none:=by
 by_cases e:p=r
 ·subst e; rw[aF] at h; cases h
 ·rw[aj e] at h; exact h
theorem vD {α β:Type}(F:β->α)(f:Nat->β)(d:β)(i:Nat):(List.range i).map (λj=>F (f j)) ++ [F d]=(List.range (i + 1)).map λj=>F ((λj=>if j=i then d else f j) j):=by
 rw[<- iu]
 congr 1
 ·refine wV λj hj=>?_
  show F (f j)=F (if j=i then d else f j)
  rw[aN (cQ (bK.mp hj))]
 ·show[F d]=[F (if i=i then d else f i)]
  rw[aP rfl]
def HH (K:PySem.W.Frag):Sp:=λvs H Q _=>pZ λ(a:Addr) (ps:List Int) (p0:Int) (m:Nat) (x:Int)=>vs=[.ref a,.int m,.int x]/\aD K H a (ps.map V.int)/\ps[0]? = some p0/\1<=m/\m<=12 /\
 ∀ q H' c,j8 c->aB H H'->H q=none->H' q=some (.lst ((List.range m).map λj=>s1 (c j)))->Q (.ref q) H'
abbrev Nh:List Str:=["_law_plan_here", "_law_m", "_law_number", "_law_k", "_law_ends", "_law_row"]
abbrev Ph:List Str:=["_law_plan_here", "_law_m", "_law_number"]
theorem uK:FnScope Nh Ph (aS uk):={}
theorem C3:(["_law_k", "_law_m", "_law_number"]:List Str).Nodup:=by trivial
theorem Ky:(["_law_k", "_law_ends"]:List Str).Nodup:=by trivial
theorem Ll {ps:List Int}{i:Nat}{d:Int}(h:ps[i]? = some d):cL (ps.map V.int) (i:Int)=some (.int d):=dv (by rw[ar,h]; rfl)
theorem K2 {f:Addr}{fd:FuncData}(D:Df K mg "_law_hidden" uk Ph f fd) (B:Bt mg):aG P w K mg base (aH P w) 1 f fd Ph (HH K):=by
 refine D.F.okN uK (λvs H Q E h=>?_) (λcdv A outer s H vs Q E hr h=>?_)
 ·obtain⟨a,ps,p0,m,x,rfl,_⟩:=h
  rfl
 ·obtain⟨a,ps,p0,m,x,rfl,hS,hp0,m1,m12,k⟩:=h
  refine⟨_,aK (bJ (aw cF (af bN (pv 0) aM (λ_ _=>rfl)) aM (ao _))
    (aL (aX (cS (N':=["_law_k", "_law_m", "_law_number"]) (fm:=[none,some 1,some 2]) rfl ⟨rfl,by trivial,by trivial,rfl,rfl,rfl⟩
     (gH (by rfl) B.range (aA (pv 1) aC)) (λ_ _ _ _=>aU (i:=0) C3 rfl (Or.inl rfl)) (λ_ _ _ _=>cU)
     (λ_ _ _ _=>af dS av (vL yR (by rfl) B.int (by rfl) (aA (eO iQ (pv 0) (am eE (pv 2) (am dG (pv 1) aM)) (ao _)) aC)) (λ_ _=>rfl))))) bO)
   (aK (bJ (aw cF (af bN (pv 0) aM (λ_ _=>rfl)) aM (ao _))
    (aK (aq (i:=4) uK.nd rfl (Or.inr rfl) (cT (aA (am eE (pv 2) (am dG (pv 1) aM)) (aA (am eE (am kP (pv 2) aM) (am dG (pv 1) aM)) aC))))
    (aL (aX (cS (N':=["_law_k", "_law_ends"]) (fm:=[none,some 4]) rfl ⟨rfl,by trivial,by trivial,rfl,rfl,rfl⟩
     (gH (by rfl) B.range (aA (pv 1) aC)) (λ_ _ _ _=>aU (i:=0) Ky rfl (Or.inl rfl)) (λ_ _ _ _=>cU)
     (λ_ _ _ _=>af dS av (vL yR (by rfl) B.int (by rfl) (aA (eO iQ (pv 0) (af (r:=jh K) bN (pv 1) (am eE (pv 0) aM) (λ_ _=>rfl)) (ao _)) aC)) (λ_ _=>rfl)))))) bO)
   (aK (bJ (aw cF (af bN (pv 0) aM (λ_ _=>rfl)) aM (ao _))
    (aL (aX (cS (N':=["_law_k", "_law_m", "_law_number"]) (fm:=[none,some 1,some 2]) rfl ⟨rfl,by trivial,by trivial,rfl,rfl,rfl⟩
     (gH (by rfl) B.range (aA (pv 1) aC)) (λ_ _ _ _=>aU (i:=0) C3 rfl (Or.inl rfl)) (λ_ _ _ _=>cU)
     (λ_ _ _ _=>af dS av (vL yR (by rfl) B.int (by rfl) (aA (eO (r:=jj K false) n4 (pv 0) (dO (aA (am eE (pv 2) (pv 1)) (aA (am eE (am kP (pv 2) aM) (am dG (pv 1) aM)) aC))) (by rfl)) aC)) (λ_ _=>rfl))))) bO)
   (aK (aq (i:=5) uK.nd rfl (Or.inl rfl) (cT (aA (af dS av (am eE (am kP (pv 2) aM) aM) (λ_ _=>rfl)) aC)))
   (aK (dD d8 rfl (xQ (by rfl) B.range (aA aM (aA (pv 1) aC))) (aU (i:=3) uK.nd rfl (Or.inl rfl))
    (aL (bd (hG mD nU nS jL (pv 5) (aA
     (iB (dw (jH (aw cF (af bN (pv 5) (am kP (am BJ (pv 3) aM) aM) (λ_ _=>rfl)) av (ao _)) (jk (aw cF (am eE (am kP (pv 2) (am dG aM (pv 3))) aM) aM (ao _))))) av av) aC)))))
   (aL (aX (pv 5))))))),?_⟩
  have h0:cL (ps.map V.int) 0=some (.int p0):=Ll (i:=0) hp0
  have mI:(0:Int) < (m:Int) + 1:=by omega
  have mI0:(0:Int) < (m:Int):=by omega
  have en:((m:Nat):Int).toNat=m:=by omega
  refine⟨_,rfl,a,_,_,_,rfl,rfl,hS,h0,rfl,_,rfl,bG (λ_=>?_) (λ_=>?_)⟩
  ·refine⟨_,rfl,_,rfl,by omega,by omega,λp hp=>?_⟩
   rw[en]
   refine kB (λi σ H2=>∃ v,σ=[v,some (.int m),some (.int x)]/\aB H H2/\H2 p=some (.lst ((List.range i).map λj:Nat=>s1 (cb (decide ((0:Int) + (j:Int) < x % ((m:Int) + 1))))))) ⟨none,rfl,aB.new hp,aF⟩ ?_ ?_
   ·rintro i σ H2 hi ⟨v,rfl,s2,e2⟩
    refine eN ⟨_,rfl,_,rfl,_,rfl,_,_,rfl,rfl,_,_,rfl,rfl,mI,_,_,rfl,rfl,.inr ⟨_,rfl,?_⟩⟩
    refine⟨_,_,_,rfl,rfl,(by decide),xg _,_,e2,h9 _ _ (by omega),_,rfl,bW hp s2,?_⟩
    rw[aF,<- iu]
    rfl
   ·rintro σ H2 ⟨v,rfl,s2,e2⟩
    exact k p H2 _ (yP _) s2 hp e2
  refine⟨_,rfl,a,_,_,_,rfl,rfl,hS,h0,rfl,_,rfl,bG (λ_=>?_) (λ_=>?_)⟩
  ·refine⟨_,rfl,_,rfl,_,_,rfl,rfl,_,_,rfl,rfl,mI,_,rfl,_,_,rfl,rfl,⟨by decide,by decide⟩,_,rfl,_,_,rfl,rfl,_,_,rfl,rfl,mI,b8 (show 2<=2 from aY 2) (by decide),λr hr0=>?_⟩
   refine⟨_,rfl,_,rfl,by omega,by omega,λp hp=>?_⟩
   rw[en]
   have hpH:H p=none:=n6 hp
   have s0:aB H (upd H r (.lst [.int (x % ((m:Int) + 1)),.int (x / 64 % ((m:Int) + 1))])):=aB.new hr0
   have ap:∀ i:Nat,∃ e:Int,cL [V.int (x % ((m:Int) + 1)),V.int (x / 64 % ((m:Int) + 1))] ((0 + (i:Int)) % 2)=some (.int e):=λi=>by
    rcases(show(0 + (i:Int)) % 2=0∨(0 + (i:Int)) % 2=1 by omega) with z | z
    ·rw[z]; exact⟨_,rfl⟩
    ·rw[z]; exact⟨_,rfl⟩
   refine kB (λi σ H2=>∃ v f,σ=[v,some (.ref r)]/\aB (upd H r (.lst [.int (x % ((m:Int) + 1)),.int (x / 64 % ((m:Int) + 1))])) H2/\H2 p=some (.lst ((List.range i).map λj=>s1 (cb (f j))))) ⟨none,λ_=>true,rfl,aB.new hp,aF⟩ ?_ ?_
   ·rintro i σ H2 hi ⟨v,f,rfl,s2,e2⟩
    obtain⟨e,he⟩:=ap i
    refine eN ⟨_,rfl,_,rfl,_,rfl,_,_,rfl,rfl,(by show(0:Int) < 2; decide),r,_,_,_,rfl,rfl,aD.of (s2 r _ aF),he,_,_,rfl,rfl,.inr ⟨_,rfl,?_⟩⟩
    refine⟨_,_,_,rfl,rfl,(by decide),xg _,_,e2,h9 _ _ (by omega),_,λj=>if j=i then decide ((0:Int) + (i:Int) < e) else f j,rfl,bW hp s2,?_⟩
    rw[aF]
    exact iY (λz=>some (HO.lst z)) (vD (λb=>s1 (cb b)) f _ i)
   ·rintro σ H2 ⟨v,f,rfl,s2,e2⟩
    exact k p H2 _ (yP _) (s0.trans' s2) hpH e2
  refine⟨_,rfl,a,_,_,_,rfl,rfl,hS,h0,rfl,_,rfl,bG (λ_=>?_) (λ_=>?_)⟩
  ·refine⟨_,rfl,_,rfl,by omega,by omega,λp hp=>?_⟩
   rw[en]
   refine kB (λi σ H2=>∃ v f,σ=[v,some (.int m),some (.int x)]/\aB H H2/\H2 p=some (.lst ((List.range i).map λj=>s1 (cb (f j))))) ⟨none,λ_=>true,rfl,aB.new hp,aF⟩ ?_ ?_
   ·rintro i σ H2 hi ⟨v,f,rfl,s2,e2⟩
    refine eN ⟨_,rfl,_,rfl,_,rfl,_,_,rfl,rfl,mI0,_,rfl,_,_,rfl,rfl,⟨by decide,by decide⟩,_,rfl,_,_,rfl,rfl,_,_,rfl,rfl,mI,b8 (show 2<=2 from aY 2) (by decide),λT hT=>?_⟩
    refine⟨T,_,rfl,.inr (.inl (.inl aF)),rfl,rfl,.inr ⟨_,rfl,?_⟩⟩
    refine⟨_,_,_,rfl,rfl,(by decide),xg _,_,aB.new hT p _ e2,h9 _ _ (by omega),_,λj=>if j=i then (eF (.int (0 + (i:Int))) [.int (x % m),.int (x / 64 % ((m:Int) + 1))]) else f j,rfl,bW hp (s2.trans' (aB.new hT)),?_⟩
    rw[aF]
    exact iY (λz=>some (HO.lst z)) (vD (λb=>s1 (cb b)) f _ i)
   ·rintro σ H2 ⟨v,f,rfl,s2,e2⟩
    exact k p H2 _ (yP _) s2 hp e2
  ·refine⟨_,rfl,_,_,rfl,rfl,⟨by decide,by decide⟩,_,_,rfl,rfl,(by show(0:Int) < 2; decide),_,_,_,rfl,rfl,(by decide),Bo _,b8 (show 1<=1 from aY 1) (by decide),λp hp=>?_⟩
   refine⟨_,rfl,1,_,rfl,⟨by decide,by decide,by omega,by omega⟩,?_⟩
   have en1:((m:Int) - 1).toNat=m - 1:=by omega
   rw[en1]
   refine jy (λi σ H2=>∃ v c,σ=[some (.ref a),some (.int m),some (.int x),v,none,some (.ref p)]/\j8 c/\aB H H2/\H2 p=some (.lst ((List.range (i + 1)).map λj=>s1 (c j)))) ⟨none,λ_=>(if x / 3 % 2=0 then 110 else 121),rfl,(λ_=>by split <;> simp),aB.new hp,aF⟩ ?_ ?_
   ·rintro i σ H2 hi ⟨v,c,rfl,hc,s2,e2⟩
    have fin:∀ d,(d=121∨d=110)->∃ v' c',[some (.ref a),some (.int m),some (.int x),some (.int (1 + (i:Int))),none,some (.ref p)]=[some (V.ref a),some (V.int m),some (V.int x),v',none,some (V.ref p)]/\j8 c'/\aB H (upd H2 p (.lst (((List.range (i + 1)).map λj=>s1 (c j)) ++ [s1 d]))) /\
      upd H2 p (.lst (((List.range (i + 1)).map λj=>s1 (c j)) ++ [s1 d])) p=some (.lst ((List.range (i + 1 + 1)).map λj=>s1 (c' j))):=λd hd=>by
     refine⟨_,λj=>if j=i + 1 then d else c j,rfl,λj=>?_,bW hp s2,?_⟩
     ·show(if j=i + 1 then d else c j)=121∨(if j=i + 1 then d else c j)=110
      split
      ·exact hd
      ·exact hc j
     ·rw[aF]
      exact iY (λz=>some (HO.lst z)) (vD s1 c d (i + 1))
    have ix:cL ((List.range (i + 1)).map λj=>s1 (c j)) ((1 + (i:Int) - 1) / 2)=some (s1 (c (i / 2))):=by
     have e:(1 + (i:Int) - 1) / 2=((i / 2:Nat):Int):=by omega
     rw[e]
     refine dv ?_
     rw[ar,o4 (by omega)]
     rfl
    have il:((List.range (i + 1)).map λj=>s1 (c j)).length < sizeLine:=h9 _ _ (by omega)
    refine⟨_,rfl,.inl ⟨rfl,_,aD.of e2⟩,_,rfl,_,rfl,_,_,rfl,rfl,_,_,rfl,rfl,⟨by decide,by decide⟩,p,_,_,_,rfl,rfl,aD.of e2,ix,rfl,_,rfl,bG (λ_=>?_) (λ_=>?_)⟩
    ·exact ax ⟨p,_,_,rfl,rfl,e2,il,fin 110 (.inr rfl)⟩
    ·refine⟨_,rfl,_,rfl,_,_,rfl,rfl,_,_,rfl,rfl,⟨(by show(0:Int) < 3 + (1 + (i:Int)); omega),(by show(3:Int) + (1 + (i:Int)) < 1073741824; omega)⟩,_,_,rfl,rfl,(by show(0:Int) < 3; decide),rfl,_,rfl,bG (λ_=>?_) (λ_=>?_)⟩
     ·exact⟨p,_,_,rfl,rfl,e2,il,fin 110 (.inr rfl)⟩
     ·exact⟨p,_,_,rfl,rfl,e2,il,fin 121 (.inl rfl)⟩
   ·rintro σ H2 ⟨v,c,rfl,hc,s2,e2⟩
    rw[show m - 1 + 1=m by omega] at e2
    exact⟨_,rfl,k p H2 c hc s2 hp e2⟩
abbrev uT:Stmt:=ak 85
abbrev uU:Stmt:=ak 86
abbrev uS:Stmt:=ak 87
abbrev jE:Stmt:=ak 81
abbrev Pb:List Str:=["_law_number", "_law_n"]
abbrev pL:List Str:=["_law_cell_here", "_law_parts"]
def A6 (K:PySem.W.Frag):Sp:=λvs H Q _=>j7 λ(x:Int) (n:Nat) (a:Addr) (p0 p1 p2 p3 p4:Int)=>vs=[.int x,.int n,.ref a]/\aD K H a ([p0,p1,p2,p3,p4].map V.int)/\1<=n/\n<=12/\∀ H' c,j8 c->aB H H'->Q (.str (tx n c)) H'
abbrev Nr:List Str:=["_law_number", "_law_n", "_law_plan_here", "_law_m", "_law_hidden_here", "_law_flips", "_law_row", "_law_q", "_law_sign"]
abbrev Pr:List Str:=["_law_number", "_law_n", "_law_plan_here"]
theorem lP:FnScope Nr Pr (aS uT):={}
theorem KM {c:Nat}(h:c=121∨c=110):df c=121∨df c=110:=by
 unfold df
 split
 ·exact .inr rfl
 ·exact .inl rfl
theorem zX (c:Nat->Nat)(d i:Nat):tx i c ++ (⟨#[d]⟩:Str)=tx (i + 1) λj=>if j=i then d else c j:=by
 have e:tx i c=tx i λj=>if j=i then d else c j:=mT λj hj=>by rw[aN (cQ hj)]
 rw[e]
 exact oF (by rw[aP rfl])
theorem EF {c:Nat->Nat}{d i:Nat}(hc:j8 c)(hd:d=121∨d=110):j8 λj=>if j=i then d else c j:=λj=>by
 show(if j=i then d else c j)=121∨(if j=i then d else c j)=110
 split
 ·exact hd
 ·exact hc j
theorem Jk {f fb fh fn:Addr}{fd gb gh gn:FuncData}(D:Df K mg "_law_row_by" uT Pr f fd) (Db:Df K mg "_law_bits" uz Pb fb gb) (Dh:Df K mg "_law_hidden" uk Ph fh gh) (Dn:Df K mg "_law_not" qY ["_law_sign"] fn gn) (B:Bt mg):aG P w K mg base (aH P w) 2 f fd Pr (A6 K):=by
 refine D.F.okN lP (λvs H Q E h=>?_) (λcdv A outer s H vs Q E hr h=>?_)
 ·obtain⟨x,n,a,p0,p1,p2,p3,p4,rfl,_⟩:=h
  rfl
 ·obtain⟨x,n,a,p0,p1,p2,p3,p4,rfl,hS,n1,n12,k⟩:=h
  refine⟨_,aK (bJ (dw (jH (aw cF (af bN (pv 2) aM (λ_ _=>rfl)) aM (ao _)) (jk (aw cF (am eE (pv 0) aM) aM (ao _)))))
    (aL (aX (aO Db (Bm Db B) hr aJ (aA (pv 0) (aA (pv 1) aC))))) bO)
   (aK (aq (i:=3) lP.nd rfl (Or.inl rfl) (am dG aM (am eE (af bN (pv 2) aM (λ_ _=>rfl)) (pv 1))))
   (aK (aq (i:=4) lP.nd rfl (Or.inl rfl) (aO Dh (K2 Dh B) hr aJ (aA (pv 2) (aA (pv 3) (aA (pv 0) aC)))))
   (aK (aq (i:=5) lP.nd rfl (Or.inl rfl) (aO Db (Bm Db B) hr aJ (aA (af bN (pv 2) aM (λ_ _=>rfl)) (aA (pv 1) aC))))
   (aK (aq (i:=6) lP.nd rfl (Or.inl rfl) av)
   (aK (dD d8 rfl (gH (by rfl) B.range (aA (pv 1) aC)) (aU (i:=7) lP.nd rfl (Or.inl rfl))
    (aK (aq (i:=8) lP.nd rfl (Or.inl rfl) (af bN (pv 4) (am eE (am dG (pv 7) (am ju (am kP (pv 7) aM) (af bN (pv 2) aM (λ_ _=>rfl)))) (pv 3)) (λ_ _=>rfl)))
    (aL (aq (i:=6) lP.nd rfl (Or.inl rfl) (am kQ (pv 6) (iB (aw cF (af dS (pv 5) (pv 7) (λ_ _=>rfl)) av (ao _)) (aO Dn (BX Dn B) hr aJ (aA (pv 8) aC)) (pv 8)))))))
   (aL (aX (pv 6)))))))),?_⟩
  have bits:Q (.str (tx n (nL x))) H:=k H _ (NO x) (aB.refl H)
  refine⟨_,rfl,a,_,_,_,rfl,rfl,hS,rfl,rfl,_,rfl,bG (λ_=>?_) (λ_=>?_)⟩
  ·exact ax ⟨_,rfl,_,rfl,x,n,rfl,by omega,bits⟩
  refine⟨_,rfl,_,_,rfl,rfl,(by show(0:Int) < 31; decide),rfl,_,rfl,bG (λ_=>?_) (λ_=>?_)⟩
  ·exact⟨_,rfl,_,rfl,x,n,rfl,by omega,bits⟩
  have nI:(0:Int) < (n:Int):=by omega
  have mb:0<=p1 % (n:Int)/\p1 % (n:Int) < n:=⟨lA _ (by omega),lB _ nI⟩
  refine⟨_,rfl,a,_,_,_,rfl,rfl,hS,rfl,_,rfl,_,_,rfl,rfl,nI,_,_,rfl,rfl,?_⟩
  obtain⟨m,hm⟩:∃ m:Nat,(m:Int)=1 + p1 % (n:Int):=⟨(1 + p1 % (n:Int)).toNat,by omega⟩
  refine⟨_,rfl,_,rfl,_,rfl,a,_,p0,m,x,(by rw[hm]; rfl),hS,rfl,by omega,by omega,λq H1 hc hb s1' hq e1=>?_⟩
  refine⟨_,rfl,a,_,_,_,rfl,rfl,s1'.seq hS,rfl,_,rfl,p2,n,rfl,by omega,?_⟩
  refine⟨_,rfl,_,rfl,by omega,by omega,?_⟩
  have en:((n:Nat):Int).toNat=n:=by omega
  rw[en]
  have mI:(0:Int) < 1 + p1 % (n:Int):=by omega
  refine jy (λi σ H2=>∃ v u c,σ=[some (.int x),some (.int n),some (.ref a),some (.int (1 + p1 % (n:Int))),some (.ref q),some (.str (tx n (nL p2))),some (.str (tx i c)),v,u]/\j8 c/\H2=H1) ⟨none,none,λ_=>121,rfl,λ_=>.inl rfl,rfl⟩ ?_ ?_
  ·rintro i σ H2 hi ⟨v,u,c,rfl,hcb,rfl⟩
   have ei:(0:Int) + (i:Int)=(i:Int):=j6 _
   have jb:0<=(0 + (i:Int) + (0 + (i:Int)) / 2 * p3) % (1 + p1 % (n:Int))/\(0 + (i:Int) + (0 + (i:Int)) / 2 * p3) % (1 + p1 % (n:Int)) < 1 + p1 % (n:Int):=⟨lA _ (by omega),lB _ mI⟩
   obtain⟨j,hj⟩:∃ j:Nat,(j:Int)=(0 + (i:Int) + (0 + (i:Int)) / 2 * p3) % (1 + p1 % (n:Int)):=⟨((0 + (i:Int) + (0 + (i:Int)) / 2 * p3) % (1 + p1 % (n:Int))).toNat,by omega⟩
   have jm:j < m:=by omega
   have ix:cL ((List.range m).map λj=>s1 (hc j)) ((0 + (i:Int) + (0 + (i:Int)) / 2 * p3) % (1 + p1 % (n:Int)))=some (s1 (hc j)):=by
    rw[<- hj]
    refine dv ?_
    rw[ar,o4 jm]
    rfl
   refine⟨_,rfl,_,rfl,_,rfl,_,_,rfl,rfl,⟨by decide,by decide⟩,_,rfl,a,_,_,_,rfl,rfl,s1'.seq hS,rfl,_,_,rfl,rfl,.inl ⟨?_,?_⟩,_,_,rfl,rfl,_,rfl,_,_,rfl,rfl,mI,q,_,_,_,rfl,rfl,aD.of e1,ix,?_⟩
   ·show -(2 ^ 64) < (0 + (i:Int)) / 2; omega
   ·show(0 + (i:Int)) / 2 < 2 ^ 64; omega
   refine⟨_,rfl,_,rfl,_,rfl,_,_,_,rfl,rfl,jD _ _ (by omega),(by rw[ei]; exact qE hi),rfl,_,rfl,bG (λ_=>?_) (λ_=>?_)⟩
   ·refine⟨_,rfl,hc j,rfl,_,_,rfl,rfl,mW i _ _ (by omega),some (.int (0 + (i:Int))),some (s1 (hc j)),λz=>if z=i then df (hc j) else c z,?_,EF hcb (KM (hb j)),rfl⟩
    rw[zX c (df (hc j)) i]
    rfl
   ·refine⟨_,rfl,_,_,rfl,rfl,mW i _ _ (by omega),some (.int (0 + (i:Int))),some (s1 (hc j)),λz=>if z=i then hc j else c z,?_,EF hcb (hb j),rfl⟩
    rw[zX c (hc j) i]
    rfl
  ·rintro σ H2 ⟨v,u,c,rfl,hcb,rfl⟩
   exact⟨_,rfl,k H2 c hcb s1'⟩
def A8:Sp:=λvs H Q _=>∃ c:Int,vs=[.int c]/\∀ q H' (p0 p1 p2 p3 p4:Int),aB H H'->H q=none->H' q=some (.lst ([p0,p1,p2,p3,p4].map V.int))->Q (.ref q) H'
theorem Hv:FnScope ["_law_cell_here"] ["_law_cell_here"] (aS uU):={}
theorem ay {n:Nat}(h:n<=100):n<=sizeLine:=b8 h (by decide)
theorem Jl {f fr:Addr}{fd gr:FuncData}(D:Df K mg "_law_plan" uU ["_law_cell_here"] f fd) (Dr:Df K mg "_law_draws" kJ pL fr gr) (B:Bt mg):aG P w K mg base (aH P w) 2 f fd ["_law_cell_here"] A8:=by
 refine D.F.okN Hv (λvs H Q E h=>?_) (λcdv A outer s H vs Q E hr h=>?_)
 ·obtain⟨c,rfl,_⟩:=h
  rfl
 ·obtain⟨c,rfl,k⟩:=h
  refine⟨_,aL (aX (aO Dr (oo Dr B) hr aJ (aA (pv 0) (aA (cT (aA aM (aA aM (aA aM (aA aM (aA aM aC)))))) aC)))),?_⟩
  refine⟨_,rfl,ay (show 5<=100 by decide),λp hp=>?_⟩
  refine⟨c,p,[5,12,8192,7,8192],rfl,aD.of aF,by decide,by decide,λq H' sm hq e=>?_⟩
  exact k q H' _ _ _ _ _ ((aB.new hp).trans' sm) (n6 hq) e
def A5 (K:PySem.W.Frag):Sp:=λvs H Q _=>kF λ(a:Addr) (xs:List Int) (n:Nat) (c:Int)=>vs=[.ref a,.int n,.int c]/\aD K H a (xs.map V.int)/\xs.length<=100/\1<=n/\n<=12 /\
 ∀ q H' (r:Nat->Nat->Nat),(∀ i,j8 (r i))->aB H H'->H q=none->H' q=some (.lst ((List.range xs.length).map λi=>V.str (tx n (r i))))->Q (.ref q) H'
abbrev Ns:List Str:=["_law_cells", "_law_n", "_law_cell_here", "_law_plan_here"]
abbrev sF:List Str:=["_law_cells", "_law_n", "_law_cell_here"]
theorem Ah:FnScope Ns sF (aS uS):={}
theorem Kf:(["_law_one", "_law_n", "_law_plan_here"]:List Str).Nodup:=by trivial
theorem Jj {f fr fp fb:Addr}{fd gr gp gb:FuncData}(D:Df K mg "_law_rows" uS sF f fd) (Dr:Df K mg "_law_draws" kJ pL fr gr) (Dp:Df K mg "_law_plan" uU ["_law_cell_here"] fp gp) (Db:Df K mg "_law_row_by" uT Pr fb gb)
  (Gp:aG P w K mg base (aH P w) 2 fp gp ["_law_cell_here"] A8) (Gb:aG P w K mg base (aH P w) 2 fb gb Pr (A6 K)) (B:Bt mg):aG P w K mg base (aH P w) 3 f fd sF (A5 K):=by
 refine D.F.okN Ah (λvs H Q E h=>?_) (λcdv A outer s H vs Q E hr h=>?_)
 ·obtain⟨a,xs,n,c,rfl,_⟩:=h
  rfl
 ·obtain⟨a,xs,n,c,rfl,hS,hl,n1,n12,k⟩:=h
  refine⟨_,aK (aq (i:=3) Ah.nd rfl (Or.inr rfl) (aO Dp Gp hr aJ (aA (pv 2) aC)))
   (aL (aX (cS (N':=["_law_one", "_law_n", "_law_plan_here"]) (fm:=[none,some 1,some 3]) rfl ⟨rfl,by trivial,by trivial,rfl,rfl,rfl⟩
    (cK (pv 0)) (λ_ _ _ _=>aU (i:=0) Kf rfl (Or.inl rfl)) (λ_ _ _ _=>cU)
    (λ_ _ _ _=>aO Db Gb hr aJ (aA (af (r:=jh K) bN (aO Dr (oo Dr B) (hr.mono (by decide)) aJ (aA (pv 0) (aA (cT (aA aM aC)) aC))) aM (λ_ _=>rfl)) (aA (pv 1) (aA (pv 2) aC))))))),?_⟩
  refine⟨_,rfl,c,rfl,λpl H1 p0 p1 p2 p3 p4 sm1 hpl e1=>?_⟩
  refine⟨_,rfl,a,rfl,⟨_,sm1.seq hS⟩,λp hp=>?_⟩
  have hpH:H p=none:=by
   cases z:H p with
   | none=>rfl
   | some o=>rw[sm1 p o z] at hp; cases hp
  refine eI (K:=K) (a:=a) (xs:=xs.map V.int) (λi σ H2=>∃ v r,σ=[v,some (.int n),some (.ref pl)]/\(∀ i,j8 (r i))/\aB H1 H2/\H2 p=some (.lst ((List.range i).map λj=>V.str (tx n (r j)))))
   ⟨none,λ_ _=>121,rfl,λ_ _=>.inl rfl,aB.new hp,aF⟩ (λi σ H2 _ ⟨_,_,_,_,s2,_⟩=>s2.seq (sm1.seq hS)) ?_ ?_
  ·rintro i y σ H2 hi ⟨v,r,rfl,hr',s2,e2⟩
   rw[ar] at hi
   cases z:xs[i]? with
   | none=>rw[z] at hi; cases hi
   | some d =>
    rw[z] at hi
    cases hi
    have il:i < xs.length:=(cE.mp z).1
    refine eN ⟨_,rfl,ay (show 1<=100 by decide),λt ht=>?_⟩
    refine⟨d,t,[8192],rfl,aD.of aF,by decide,by decide,λu H3 s3 hu e3=>?_⟩
    have s23:aB H2 H3:=(aB.new ht).trans' s3
    refine⟨u,_,_,.int (iC d % 8192),rfl,rfl,aD.of e3,rfl,_,rfl,_,rfl,?_⟩
    refine⟨_,n,pl,p0,p1,p2,p3,p4,rfl,(s2.trans' s23).seq (aD.of e1),n1,n12,λH4 cc hcc s4=>?_⟩
    refine⟨_,s4 p _ (s23 p _ e2),h9 _ _ (by omega),_,λj=>if j=i then cc else r j,rfl,λj=>?_,bW hp (s2.trans' (s23.trans' s4)),?_⟩
    ·show j8 (if j=i then cc else r j)
     split
     ·exact hcc
     ·exact hr' j
    ·rw[aF]
     exact iY (λz=>some (HO.lst z)) (vD (λc=>V.str (tx n c)) r cc i)
  ·rintro σ H2 ⟨v,r,rfl,hr',s2,e2⟩
   rw[aI] at e2
   exact k p H2 r hr' (sm1.trans' s2) hpH e2
def xE:List Stmt->Expr
 | [.Return (some e) _]=>e
 | _=>.Constant .none 0 ⟨0,0,0,0⟩
def zu:Expr->Expr
 | .Subscript a _ _=>a
 | e=>e
def zq:Expr->Expr
 | .Subscript _ b _=>b
 | e=>e
def rF:Expr->List Expr
 | .List es _=>es
 | _=>[]
@[irreducible] def nF:Expr:=zq (xE (dH jE))
@[irreducible] def rV:Expr:=zu (zq (xE (dH jE)))
@[irreducible] def vw:List Expr:=rF (zu (xE (dH jE)))
theorem N2:dH jE=[.Return (some (.Subscript (.List vw ⟨352,11,352,51⟩) nF ⟨352,11,352,88⟩)) ⟨352,4,352,88⟩]:=by delta nF vw; rfl
theorem N6:nF=.Subscript rV (.Constant (.int 0) 0 ⟨352,85,352,86⟩) ⟨352,52,352,87⟩:=by delta nF rV; rfl
theorem N7:rV=.Call (.Name "_law_draws" ⟨352,52,352,62⟩) [.Name "_law_cell_here" ⟨352,63,352,77⟩,.List [.Constant (.int 13) 0 ⟨352,80,352,82⟩] ⟨352,79,352,83⟩] [] ⟨352,52,352,84⟩:=by delta rV; rfl
theorem N4:rM vw=some [3,4,5,2,6,3,12,4,1,7,5,9,4]:=by delta vw; rfl
theorem N5:EO nF:=by delta nF; exact λ_ _=>rfl
def HN:Sp:=λvs H Q _=>∃ c:Int,vs=[.int c]/\∀(n:Nat) H',1<=n->n<=12->aB H H'->Q (.int n) H'
theorem IW:FnScope ["_law_cell_here"] ["_law_cell_here"] (aS jE):={}
theorem N3 (i:Nat)(h:i < 13):∃ n:Nat,1<=n/\n<=12/\cL (([3,4,5,2,6,3,12,4,1,7,5,9,4]:List Int).map V.int) (i:Int)=some (.int n):=by
 match i,h with
 | 0,_=>exact⟨3,by decide,by decide,rfl⟩
 | 1,_=>exact⟨4,by decide,by decide,rfl⟩
 | 2,_=>exact⟨5,by decide,by decide,rfl⟩
 | 3,_=>exact⟨2,by decide,by decide,rfl⟩
 | 4,_=>exact⟨6,by decide,by decide,rfl⟩
 | 5,_=>exact⟨3,by decide,by decide,rfl⟩
 | 6,_=>exact⟨12,by decide,by decide,rfl⟩
 | 7,_=>exact⟨4,by decide,by decide,rfl⟩
 | 8,_=>exact⟨1,by decide,by decide,rfl⟩
 | 9,_=>exact⟨7,by decide,by decide,rfl⟩
 | 10,_=>exact⟨5,by decide,by decide,rfl⟩
 | 11,_=>exact⟨9,by decide,by decide,rfl⟩
 | 12,_=>exact⟨4,by decide,by decide,rfl⟩
theorem K9 {f fr:Addr}{fd gr:FuncData}(D:Df K mg "_law_count" jE ["_law_cell_here"] f fd) (Dr:Df K mg "_law_draws" kJ pL fr gr) (B:Bt mg):aG P w K mg base (aH P w) 2 f fd ["_law_cell_here"] HN:=by
 refine D.F.okN IW (λvs H Q E h=>?_) (λcdv A outer s H vs Q E hr h=>?_)
 ·obtain⟨c,rfl,_⟩:=h
  rfl
 ·obtain⟨c,rfl,k⟩:=h
  rw[N2]
  have x1:=cT (X:=(jO (aH P w) P w K mg base ["_law_cell_here"] "_law_count" (aS jE) f cdv A outer s H E).nox) (pos:=⟨352,11,352,51⟩) (BH N4)
  have x2:PE (jO (aH P w) P w K mg base ["_law_cell_here"] "_law_count" (aS jE) f cdv A outer s H E).nox rV (qI (x8 K) [] E0 (h8 (fJ 0) (h8 (wn (h8 (tC (.int 13)) jC)) jC))):=by
   rw[N7]
   exact aO Dr (oo Dr B) hr aJ (aA (pv 0) (aA (cT (aA aM aC)) aC))
  have x3:PE (jO (aH P w) P w K mg base ["_law_cell_here"] "_law_count" (aS jE) f cdv A outer s H E).nox nF (oJ (jh K) (qI (x8 K) [] E0 (h8 (fJ 0) (h8 (wn (h8 (tC (.int 13)) jC)) jC))) (tC (.int 0))):=by
   rw[N6]
   exact af bN x2 aM (λ_ _=>rfl)
  refine⟨_,aL (aX (af bN x1 x3 N5)),?_⟩
  refine⟨ay (show 13<=100 by decide),λg hg=>?_⟩
  refine⟨_,rfl,ay (show 1<=100 by decide),λt ht=>?_⟩
  refine⟨c,t,[13],rfl,aD.of aF,by decide,by decide,λu H3 s3 hu e3=>?_⟩
  have db:0<=iC c % 13/\iC c % 13 < 13:=⟨lA _ (by decide),lB _ (by decide)⟩
  obtain⟨n,n1,n12,en⟩:=N3 (iC c % 13).toNat (by omega)
  have e:(((iC c % 13).toNat:Nat):Int)=iC c % 13:=by omega
  rw[e] at en
  have s03:=(aB.new ht).trans' s3
  refine⟨u,_,_,.int (iC c % 13),rfl,rfl,aD.of e3,rfl,g,_,_,.int n,rfl,rfl,aD.of (s03 g _ aF),en,?_⟩
  exact k n H3 n1 n12 ((aB.new hg).trans' s03)
abbrev mq:Stmt:=ak 19
abbrev uu:Stmt:=ak 20
abbrev qo:Stmt:=ak 21
abbrev ux:Stmt:=ak 22
abbrev mj:Stmt:=ak 24
abbrev uf:Stmt:=ak 27
abbrev oR:Stmt:=ak 29
structure Gm (mg:Str->Option Value):Prop where
 enum:mg "enumerate" = none
 sum:mg "sum" = none
 sorted:mg "sorted" = none
 dict:mg "dict" = none
 most:∃ t,mg "MOST_QUESTIONS" = some (.int 12 t)
 signs:∃ t,mg "SIGNS" = some (.str "ny" t)
def iI (a:Nat):Prop:=a=121∨a=110
def HS:Sp:=λvs H Q _=>∃ n:Nat,vs=[.int n]/\1<=n/\n<=12/\Q .non H
theorem IZ:FnScope ["questions"] ["questions"] (aS mq):={}
theorem xc {f:Addr}{fd:FuncData}(D:Df K mg "check_count" mq ["questions"] f fd) (M:Gm mg):aG P w K mg base (aH P w) 1 f fd ["questions"] HS:=by
 refine D.F.okN IZ (λvs H Q E h=>?_) (λcdv A outer s H vs Q E hr h=>?_)
 ·obtain⟨n,rfl,_⟩:=h
  rfl
 ·obtain⟨n,rfl,n1,n12,q⟩:=h
  obtain⟨t,mQ⟩:=M.most
  refine⟨_,aL (bJ (dw (jH (aw iQ (pv 0) aM (ao _)) (jk (aw n5 (pv 0) (kN (v:=.int 12) (by rfl) mQ ⟨t,rfl⟩) (ao _))))) (aL hC) bO),?_⟩
  refine⟨_,rfl,_,_,rfl,rfl,_,rfl,bG (λc=>?_) (λ_=>?_)⟩
  ·have c:(n:Int) < 1:=cw c
   omega
  ·refine⟨_,rfl,_,_,rfl,rfl,_,rfl,bG (λc=>?_) (λ_=>q)⟩
   have c:(12:Int) < n:=cw c
   omega
def HM:Sp:=λvs H Q _=>iL λ(q n:Nat)=>vs=[.int q,.int n]/\q < n/\Q .non H
abbrev sJ:List Str:=["question", "questions"]
theorem IU:FnScope sJ sJ (aS uu):={}
theorem Bj {f:Addr}{fd:FuncData}(D:Df K mg "check_question" uu sJ f fd):aG P w K mg base (aH P w) 1 f fd sJ HM:=by
 refine D.F.okN IU (λvs H Q E h=>?_) (λcdv A outer s H vs Q E hr h=>?_)
 ·obtain⟨q,n,rfl,_⟩:=h
  rfl
 ·obtain⟨q,n,rfl,hq,k⟩:=h
  refine⟨_,aL (bJ (dw (jH (aw iQ (pv 0) aM (ao _)) (jk (aw BO (pv 0) (pv 1) (ao _))))) (aL hC) bO),?_⟩
  refine⟨_,rfl,_,_,rfl,rfl,_,rfl,bG (λc=>?_) (λ_=>?_)⟩
  ·have c:(q:Int) < 0:=cw c
   omega
  ·refine⟨_,rfl,_,rfl,_,_,rfl,rfl,_,rfl,bG (λc=>?_) (λ_=>k)⟩
   have c:(n:Int)<=q:=cw c
   omega
def HL:Sp:=λvs H Q _=>∃ a:Nat,vs=[s1 a]/\iI a/\Q .non H
theorem IQ:FnScope ["sign"] ["sign"] (aS qo):={}
theorem xb {f:Addr}{fd:FuncData}(D:Df K mg "check_sign" qo ["sign"] f fd):aG P w K mg base (aH P w) 1 f fd ["sign"] HL:=by
 refine D.F.okN IQ (λvs H Q E h=>?_) (λcdv A outer s H vs Q E hr h=>?_)
 ·obtain⟨a,rfl,_⟩:=h
  rfl
 ·obtain⟨a,rfl,ha,k⟩:=h
  refine⟨_,aL (bJ (dw (i9 (aw jt (pv 0) av (ao _)) (iP (aw jt (pv 0) av (ao _))))) (aL hC) bO),?_⟩
  refine⟨_,rfl,rfl,_,rfl,bG (λc=>?_) (λ_=>aW k)⟩
  refine⟨_,rfl,rfl,_,rfl,bG (λc2=>?_) (λ_=>k)⟩
  have c:(!decide (s1 a=s1 121))=true:=c
  have c2:(!decide (s1 a=s1 110))=true:=c2
  rw[eP] at c c2
  rcases ha with e | e
  ·rw[e] at c; exact absurd c (by decide)
  ·rw[e] at c2; exact absurd c2 (by decide)
def AU:Sp:=λvs H Q _=>pZ λ(q a r b n:Nat)=>vs=[.int q,s1 a,.int r,s1 b,.int n]/\q < n/\r < n/\iI a/\iI b/\Q .non H
abbrev pM:List Str:=["q", "a", "r", "b", "questions"]
theorem Ia:FnScope pM pM (aS ux):={}
theorem cO {f fq fs:Addr}{fd gq gs:FuncData}(D:Df K mg "check_answers" ux pM f fd) (Dq:Df K mg "check_question" uu sJ fq gq) (Ds:Df K mg "check_sign" qo ["sign"] fs gs):aG P w K mg base (aH P w) 2 f fd pM AU:=by
 refine D.F.okN Ia (λvs H Q E h=>?_) (λcdv A outer s H vs Q E hr h=>?_)
 ·obtain⟨q,a,r,b,n,rfl,_⟩:=h
  rfl
 ·obtain⟨q,a,r,b,n,rfl,hq,hr',ha,hb,k⟩:=h
  refine⟨_,aK (bd (aO Dq (Bj Dq) hr aJ (aA (pv 0) (aA (pv 4) aC))))
   (aK (bd (aO Dq (Bj Dq) hr aJ (aA (pv 2) (aA (pv 4) aC))))
   (aK (bd (aO Ds (xb Ds) hr aJ (aA (pv 1) aC)))
   (aL (bd (aO Ds (xb Ds) hr aJ (aA (pv 3) aC)))))),?_⟩
  exact⟨_,rfl,_,rfl,q,n,rfl,hq,_,rfl,_,rfl,r,n,rfl,hr',_,rfl,a,rfl,ha,_,rfl,b,rfl,hb,k⟩
def Gy:Sp:=λvs H Q _=>ig λ(x g:Str) (n:Nat)=>vs=[.str x,.str g]/\x.length=n/\(∀ i,i < n->ch x i∈g.cps.toList)/\n<=100/\∀ H',aB H H'->Q (.bl true) H'
abbrev mE:List Str:=["text", "signs"]
theorem Aj:FnScope mE mE (aS oR):={}
theorem Bv:(["sign", "signs"]:List Str).Nodup:=by trivial
theorem Lp {g:Str}{a:Nat}(h:a∈g.cps.toList):(!(Builtin.Str.occurrences g ⟨#[a]⟩ 0 g.length 1).isEmpty)=true:=by
 rw[PySem.StrLaws.found_one]
 exact bR h
theorem KL {a:Nat}(h:iI a):a∈("ny" : Str).cps.toList:=by
 rcases h with rfl | rfl <;> decide +kernel
theorem Jq {f:Addr}{fd:FuncData}(D:Df K mg "only_of" oR mE f fd) (B:Bt mg):aG P w K mg base (aH P w) 1 f fd mE Gy:=by
 refine D.F.okN Aj (λvs H Q E h=>?_) (λcdv A outer s H vs Q E hr h=>?_)
 ·obtain⟨x,g,n,rfl,_⟩:=h
  rfl
 ·obtain⟨x,g,n,rfl,hl,hx,hn,k⟩:=h
  refine⟨_,aL (aX (bC (j5 rfl) (by rfl) B.all (by rfl) (aA
   (cS (N':=["sign", "signs"]) (fm:=[none,some 1]) rfl ⟨rfl,by trivial,by trivial,rfl,rfl,rfl⟩
    (lY (pv 0)) (λ_ _ _ _=>aU (i:=0) Bv rfl (Or.inl rfl)) (λ_ _ _ _=>cU)
    (λ_ _ _ _=>eO BN (pv 0) (pv 1) (by rfl))) aC))),?_⟩
  refine⟨_,rfl,_,rfl,λp hp=>?_⟩
  refine rb (λi σ H2=>∃ u,σ=[u,some (.str g)]/\aB H H2/\H2 p=some (.lst ((List.range i).map λ_=>V.bl true))) ⟨none,rfl,aB.new hp,aF⟩ ?_ ?_
  ·rintro i σ H2 hi ⟨u,rfl,s2,e2⟩
   rw[hl] at hi
   refine eN ⟨_,rfl,_,rfl,_,_,rfl,rfl,_,e2,h9 _ _ (by omega),_,rfl,bW hp s2,?_⟩
   rw[aF,<- iu]
   have e:=Lp (hx i hi)
   show some (HO.lst (_ ++ [V.bl _]))=_
   rw[show(!(Builtin.Str.occurrences g ⟨#[x.cps.getD i 0]⟩ 0 g.length 1).isEmpty)=true from e]
  ·rintro σ H2 ⟨u,rfl,s2,e2⟩
   rw[xr] at e2
   refine⟨p,_,rfl,aD.of e2,?_⟩
   have e:(((List.range x.length).map λ_=>true).all id)=true:=by simp
   rw[e]
   exact k H2 s2
def AL:Sp:=λvs H Q _=>iL λ(x:Str) (n:Nat)=>vs=[.str x,.int n]/\Row n x/\1<=n/\n<=12/\∀ H',aB H H'->Q (.bl true) H'
abbrev fT:List Str:=["row", "questions"]
theorem IG:FnScope fT fT (aS uf):={}
theorem iR {f fc fo:Addr}{fd gc go:FuncData}(D:Df K mg "is_row" uf fT f fd) (Dc:Df K mg "check_count" mq ["questions"] fc gc) (Do:Df K mg "only_of" oR mE fo go) (B:Bt mg) (M:Gm mg):aG P w K mg base (aH P w) 2 f fd fT AL:=by
 refine D.F.okN IG (λvs H Q E h=>?_) (λcdv A outer s H vs Q E hr h=>?_)
 ·obtain⟨x,n,rfl,_⟩:=h
  rfl
 ·obtain⟨x,n,rfl,hx,n1,n12,k⟩:=h
  obtain⟨t,mS⟩:=M.signs
  refine⟨_,aK (bd (aO Dc (xc Dc M) hr aJ (aA (pv 1) aC)))
   (aL (aX (jr (eO cF (bC j4 (by rfl) B.len d7 (aA (pv 0) aC)) (pv 1) (ao _))
    (lZ (aO Do (Jq Do B) hr aJ (aA (pv 0) (aA (kN (v:=.str "ny") (by rfl) mS ⟨t,rfl⟩) aC))))))),?_⟩
  refine⟨_,rfl,n,rfl,n1,n12,_,rfl,_,rfl,?_,_,rfl,rfl,_,rfl,bG (λ_=>?_) (λc=>?_)⟩
  ·rw[hx.len]; exact ay (show n<=100 by omega)
  ·exact⟨_,rfl,x, "ny",n,rfl,hx.len,λi hi=>KL (hx.bin i hi),by omega,k⟩
  ·exact absurd (bR (by rw[hx.len])) c
def qM:Sp:=λvs H Q _=>iL λ(x:Str) (n:Nat)=>vs=[.str x,.int n]/\Row n x/\1<=n/\n<=12/\∀ H',aB H H'->Q .non H'
theorem IS:FnScope fT fT (aS mj):={}
theorem iS {f fi:Addr}{fd gi:FuncData}(D:Df K mg "check_row" mj fT f fd) (Di:Df K mg "is_row" uf fT fi gi) (Gi:aG P w K mg base (aH P w) 2 fi gi fT AL):aG P w K mg base (aH P w) 3 f fd fT qM:=by
 refine D.F.okN IS (λvs H Q E h=>?_) (λcdv A outer s H vs Q E hr h=>?_)
 ·obtain⟨x,n,rfl,_⟩:=h
  rfl
 ·obtain⟨x,n,rfl,hx,n1,n12,k⟩:=h
  refine⟨_,aL (bJ (eD (cm (aO Di Gi hr aJ (aA (pv 0) (aA (pv 1) aC))))) (aL hC) bO),?_⟩
  exact⟨_,rfl,_,rfl,x,n,rfl,hx,n1,n12,λH' s'=>⟨_,rfl,aW (k H' s')⟩⟩
end
open PySem L2 PySem.W
open PyProof.Rows (envOfC)
abbrev oU:Stmt:=pD (ak 76) 0
abbrev mw:Stmt:=pD (ak 76) 1
abbrev jd:Stmt:=pD (ak 76) 2
abbrev md:Stmt:=pD (ak 76) 3
abbrev oS:Stmt:=pD (ak 76) 4
abbrev mZ:Stmt:=pD (ak 76) 6
structure Tb (K:PySem.W.Frag) (mg:Str->Option Value) (C fi fa ft fy fm fc:Addr) (gi ga gt gy gm gc:FuncData):Prop where
 mC:mg "Table" = some (.ref C)
 cl:jZ K C
 mkC:Mk K C fi
 nQ:ko K C "questions"
 nK:ko K C "kept"
 nB:ko K C "both"
 ma:mG K C "add" fa
 mt:mG K C "take" ft
 my:mG K C "tally" fy
 mm:mG K C "many" fm
 mc:mG K C "count" fc
 Fi:ic K "__init__" "Table.__init__" oU fi gi
 Fa:ic K "add" "Table.add" mw fa ga
 Ft:ic K "take" "Table.take" jd ft gt
 Fy:ic K "tally" "Table.tally" md fy gy
 Fm:ic K "many" "Table.many" oS fm gm
 Fc:ic K "count" "Table.count" mZ fc gc
 bi:Binds K gi ["self", "questions"] []
 ba:Binds K ga ["self", "row"] []
 bt:Binds K gt ["self", "row"] []
 by':Binds K gy ["self", "row", "by"] []
 bm:Binds K gm ["self"] []
 bc:Binds K gc ["self", "q", "a", "r", "b"] []
def qH (n:Nat)(kp bt:Addr):List (Str×V):=[("questions",.int n),("kept",.ref kp),("both",.ref bt)]
structure TabAt (C:Addr) (H:Hp) (t dx kp bt:Addr) (n m:Nat) (rs:List Str):Prop where
 ins:H t=some (.ins C dx (qH n kp bt))
 ex:∃ c bvs,H kp=some (.dK (c.map fK))/\H bt=some (.dT bvs)/\Kept rs c/\dB n (iy rs) bvs/\c.length<=m/\bvs.length<=144 * m
def Ex (kp bt:Addr)(H H':Hp):Prop:=∀ b o,b≠kp->b≠bt->H b=some o->H' b=some o
def tN (bt:Addr)(H H':Hp):Prop:=∀ b o,b≠bt->H b=some o->H' b=some o
section
variable {P:Program}{w:World}{K:PySem.W.Frag}{mg:Str->Option Value}{base:Heap}{C fi fa ft fy fm fc:Addr}{gi ga gt gy gm gc:FuncData}
def GV (C:Addr):Sp:=λvs H Q _=>gY λ(t dx kp bt:Addr) (n:Nat) (x:Str) (d:Int) (f:Nat->Nat->Nat->Nat->Int) (bvs:List (List aQ×V))=>vs=[.ref t,.str x,.int d]/\H t=some (.ins C dx (qH n kp bt))/\H bt=some (.dT bvs) /\
 dB n f bvs/\bvs.length<=200000/\Row n x/\n<=12/\∀ H' bvs',H' bt=some (.dT bvs')->dB n (gG f x d n 0) bvs'->bvs'.length<=bvs.length + 144->tN bt H H'->Q .non H'
abbrev Nt:List Str:=["self", "row", "by", "q", "a", "r", "b", "pair"]
theorem oP:FnScope Nt ["self", "row", "by"] (aS md):={}
theorem BV (T:Tb K mg C fi fa ft fy fm fc gi ga gt gy gm gc)(M:Gm mg):aG P w K mg base (aH P w) 1 fy gy ["self", "row", "by"] (GV C):=by
 refine T.Fy.okN oP (λvs H Q E h=>?_) (λcdv A outer s H vs Q E hr h=>?_)
 ·obtain⟨t,dx,kp,bt,n,x,d,f,bvs,rfl,_⟩:=h
  rfl
 ·obtain⟨t,dx,kp,bt,n,x,d,f,bvs,rfl,ht,hb,hB,hl,hx,n12,k⟩:=h
  have hu:(A.deeper (envOfC "Table.tally" (aS md) s.heap.objs.size fy cdv)).units + 1 < cLine:=by have:=hr.units; omega
  refine⟨_,aL (dD d8 rfl (og (by rfl) M.enum (aA (pv 1) aC)) (dF rfl (bF (aU (i:=3) oP.nd rfl (Or.inl rfl)) (bF (aU (i:=4) oP.nd rfl (Or.inl rfl)) dE)))
   (aL (dD d8 rfl (og (by rfl) M.enum (aA (pv 1) aC)) (dF rfl (bF (aU (i:=5) oP.nd rfl (Or.inl rfl)) (bF (aU (i:=6) oP.nd rfl (Or.inl rfl)) dE)))
    (aK (aq (i:=7) oP.nd rfl (Or.inl rfl) (dO (aA (pv 3) (aA (pv 4) (aA (pv 5) (aA (pv 6) aC))))))
    (aL (xN hu (dY (pv 0) rfl) (pv 7) (am dG (xS hu (dY (pv 0) rfl) (pv 7) aM ⟨rfl,rfl,rfl,rfl⟩) (pv 2)) rfl)))))),?_⟩
  have keep:∀{H2:Hp} {T:Addr} {o:HO},tN bt H H2->H2 T=none->tN bt H (upd H2 T o):=λkk hT b o hb e=>aB.new hT b o (kk b o hb e)
  have tbt:t≠bt:=λz=>by rw[z,hb] at ht; cases ht
  refine⟨_,rfl,x,rfl,Cn (λi σ H2=>∃ v3 v4 v5 v6 v7 bvs2,σ=[some (.ref t),some (.str x),some (.int d),v3,v4,v5,v6,v7]/\H2 bt=some (.dT bvs2)/\dB n (gG f x d i 0) bvs2/\bvs2.length<=bvs.length + 12 * i/\tN bt H H2)
   ⟨none,none,none,none,none,bvs,rfl,hb,hB.start,aY _,λb o _ e=>e⟩ ?_ ?_⟩
  ·rintro i T1 σ H2 hi hT ⟨v3,v4,v5,v6,v7,bvs2,rfl,e2,hB2,l2,k2⟩
   rw[hx.len] at hi
   refine⟨T1,_,rfl,bT.of aF,rfl,_,_,rfl,_,_,rfl,rfl,?_⟩
   refine⟨_,rfl,x,rfl,Cn (λj σ H3=>∃ v5 v6 v7 bvs3,σ=[some (.ref t),some (.str x),some (.int d),some (.int i),some (sg x i),v5,v6,v7]/\H3 bt=some (.dT bvs3)/\dB n (gG f x d i j) bvs3/\bvs3.length<=bvs.length + 12 * i + j/\tN bt H H3)
    ⟨_,_,_,bvs2,rfl,aB.new hT _ _ e2,hB2,l2,keep k2 hT⟩ ?_ ?_⟩
   ·rintro j T2 σ H3 hj hT2 ⟨u5,u6,u7,bvs3,rfl,e3,hB3,l3,k3⟩
    rw[hx.len] at hj
    refine⟨T2,_,rfl,bT.of aF,rfl,_,_,rfl,_,_,rfl,rfl,?_⟩
    refine⟨_,rfl,_,rfl,_,rfl,_,rfl,ay (show 4<=100 by decide),λT3 hT3=>?_⟩
    obtain⟨v,ev,hB4⟩:=hB3.step hi hj
    have k4:=keep (o:=.tup [.int i,sg x i,.int j,sg x j]) (keep (o:=.tup [.int j,sg x j]) k3 hT2) hT3
    have e4:=aB.new (o:=.tup [.int i,sg x i,.int j,sg x j]) hT3 _ _ (aB.new (o:=.tup [.int j,sg x j]) hT2 _ _ e3)
    have t4:=k4 t _ tbt ht
    have eT:upd (upd H3 T2 (.tup [.int j,sg x j])) T3 (.tup [.int i,sg x i,.int j,sg x j]) T3=some (.tup ((bk i (ch x i) j (ch x j)).map kV)):=aF
    refine⟨_,rfl,t,C,dx,_,_,rfl,t4,T.cl,T.nB,rfl,bt,rfl,.inr ⟨_,.inl e4⟩,_,rfl,_,zC e4 eT,_,rfl,_,_,ev,rfl,?_⟩
    refine⟨_,rfl,t,C,dx,_,_,rfl,t4,T.cl,T.nB,rfl,_,rfl,bt,_,rfl,F8 e4 eT ?_,?_⟩
    ·rw[fG]; omega
    have lp:=p9 bvs3 (bk i (ch x i) j (ch x j)) (.int (v + d))
    exact⟨_,_,_,_,rfl,aF,hB4,b8 lp (by omega),λb o hb' e=>by rw[aj hb']; exact k4 b o hb' e⟩
   ·rintro σ H3 ⟨u5,u6,u7,bvs3,rfl,e3,hB3,l3,k3⟩
    rw[hx.len] at hB3 l3
    exact⟨_,_,_,_,_,bvs3,rfl,e3,hB3.turn,by omega,k3⟩
  ·rintro σ H2 ⟨v3,v4,v5,v6,v7,bvs2,rfl,e2,hB2,l2,k2⟩
   rw[hx.len] at hB2 l2
   exact k H2 bvs2 e2 hB2 (by omega) k2
def GU (C:Addr):Sp:=λvs H Q _=>ig λ(t dx:Addr) (n:Nat)=>vs=[.ref t,.int n]/\H t=some (.ins C dx [])/\1<=n/\n<=12 /\
 ∀ H' kp bt,TabAt C H' t dx kp bt n 0 []->H kp=none->H bt=none->(∀ b o,b≠t->H b=some o->H' b=some o)->Q .non H'
theorem IK:FnScope ["self", "questions"] ["self", "questions"] (aS oU):={}
theorem J4 (n:Nat)(kp bt:Addr):dR "both" (.ref bt) (dR "kept" (.ref kp) (dR "questions" (.int n) []))=qH n kp bt:=rfl
theorem Jf {fn:Addr}{gn:FuncData}(T:Tb K mg C fi fa ft fy fm fc gi ga gt gy gm gc) (Dc:Df K mg "check_count" mq ["questions"] fn gn) (M:Gm mg):aG P w K mg base (aH P w) 2 fi gi ["self", "questions"] (GU C):=by
 refine T.Fi.okN IK (λvs H Q E h=>?_) (λcdv A outer s H vs Q E hr h=>?_)
 ·obtain⟨t,dx,n,rfl,_⟩:=h
  rfl
 ·obtain⟨t,dx,n,rfl,ht,n1,n12,k⟩:=h
  refine⟨_,aK (bd (aO Dc (xc Dc M) hr aJ (aA (pv 1) aC)))
   (aK (xM (pv 0) (pv 1) rfl) (aK (xM (pv 0) BB rfl) (aL (xM (pv 0) BA rfl)))),?_⟩
  refine⟨_,rfl,n,rfl,n1,n12,_,rfl,_,rfl,t,C,dx,_,rfl,ht,T.cl,T.nQ,(by decide),λkp hkp=>?_⟩
  have hk:H kp=none:=n6 hkp
  have kt:t≠kp:=λz=>by rw[<- z,ht] at hk; cases hk
  have e1:upd (upd H t (.ins C dx (dR "questions" (.int n) []))) kp (.dK []) t=some (.ins C dx (dR "questions" (.int n) [])):=by rw[aj kt]; exact aF
  refine⟨_,rfl,t,C,dx,_,rfl,e1,T.cl,T.nK,(show 1 < 1000 by decide),λbt hbt=>?_⟩
  have hb1:=n6 hbt
  have hb:H bt=none:=n6 (n6 hb1)
  have bt':t≠bt:=λz=>by rw[<- z,ht] at hb; cases hb
  have kb:kp≠bt:=λz=>by rw[<- z,aF] at hb1; cases hb1
  have e2:upd (upd (upd (upd H t (.ins C dx (dR "questions" (.int n) []))) kp (.dK [])) t (.ins C dx (dR "kept" (.ref kp) (dR "questions" (.int n) [])))) bt (.dT []) t=some (.ins C dx (dR "kept" (.ref kp) (dR "questions" (.int n) []))):=by rw[aj bt']; exact aF
  refine⟨_,rfl,t,C,dx,_,rfl,e2,T.cl,T.nB,(show 2 < 1000 by decide),?_⟩
  refine k _ kp bt ⟨?_,[],[],?_,?_,Kept.nil,dB.nil,bX _,bX _⟩ hk hb λb o hb' e=>?_
  ·rw[aF,J4]
  ·rw[aj (fB kt),aj kb,aj (fB kt),aF]; rfl
  ·rw[aj (fB bt'),aF]
  ·have b1:b≠kp:=λz=>by rw[z,hk] at e; cases e
   have b2:b≠bt:=λz=>by rw[z,hb] at e; cases e
   rw[aj hb',aj b2,aj hb',aj b1,aj hb']
   exact e
def GT (C:Addr):Sp:=λvs H Q _=>o6 λ(t dx kp bt:Addr) (n m:Nat) (rs:List Str)=>vs=[.ref t]/\TabAt C H t dx kp bt n m rs/\Q (.int (rs.length:Nat)) H
theorem IA:FnScope ["self"] ["self"] (aS oS):={}
theorem Je (T:Tb K mg C fi fa ft fy fm fc gi ga gt gy gm gc)(M:Gm mg):aG P w K mg base (aH P w) 1 fm gm ["self"] (GT C):=by
 refine T.Fm.okN IA (λvs H Q E h=>?_) (λcdv A outer s H vs Q E hr h=>?_)
 ·obtain⟨t,dx,kp,bt,n,m,rs,rfl,_⟩:=h
  rfl
 ·obtain⟨t,dx,kp,bt,n,m,rs,rfl,⟨ht,c,bvs,hk,hb,hK,hB,lc,lb⟩,k⟩:=h
  refine⟨_,aL (aX (JK rfl (by rfl) M.sum (dY (pv 0) rfl))),?_⟩
  refine⟨_,rfl,t,C,dx,_,_,rfl,ht,T.cl,T.nK,rfl,kp,_,_,rfl,hk,MI c,?_⟩
  rw[PySem.W.kpr_sum_vals,hK.sum]
  exact k
def lK (C:Addr):Sp:=λvs H Q _=>zB λ(t dx kp bt:Addr) (n m:Nat) (rs:List Str) (q a r b:Nat)=>vs=[.ref t,.int q,s1 a,.int r,s1 b]/\TabAt C H t dx kp bt n m rs/\q < n/\r < n/\iI a/\iI b/\∀ H',aB H H'->Q (.int (aT rs q a r b:Nat)) H'
abbrev kC:List Str:=["self", "q", "a", "r", "b"]
theorem Hq:FnScope kC kC (aS mZ):={}
theorem cN {fn:Addr}{gn:FuncData}(T:Tb K mg C fi fa ft fy fm fc gi ga gt gy gm gc) (Dn:Df K mg "check_answers" ux pM fn gn) (Gn:aG P w K mg base (aH P w) 2 fn gn pM AU):aG P w K mg base (aH P w) 3 fc gc kC (lK C):=by
 refine T.Fc.okN Hq (λvs H Q E h=>?_) (λcdv A outer s H vs Q E hr h=>?_)
 ·obtain⟨t,dx,kp,bt,n,m,rs,q,a,r,b,rfl,_⟩:=h
  rfl
 ·obtain⟨t,dx,kp,bt,n,m,rs,q,a,r,b,rfl,⟨ht,c,bvs,hk,hb,hK,hB,lc,lb⟩,hq,hr',ha,hb',k⟩:=h
  have hu:(A.deeper (envOfC "Table.count" (aS mZ) s.heap.objs.size fc cdv)).units + 1 < cLine:=by have:=hr.units; omega
  refine⟨_,aK (bd (aO Dn Gn hr aJ (aA (pv 1) (aA (pv 2) (aA (pv 3) (aA (pv 4) (aA (dY (pv 0) rfl) aC)))))))
   (aL (aX (xS hu (dY (pv 0) rfl) (dO (aA (pv 1) (aA (pv 2) (aA (pv 3) (aA (pv 4) aC))))) aM ⟨rfl,rfl,rfl,rfl⟩))),?_⟩
  refine⟨_,rfl,_,rfl,_,rfl,_,rfl,_,rfl,t,C,dx,_,_,rfl,ht,T.cl,T.nQ,rfl,q,a,r,b,n,rfl,hq,hr',ha,hb',?_⟩
  refine⟨_,rfl,t,C,dx,_,_,rfl,ht,T.cl,T.nB,rfl,bt,rfl,.inr ⟨_,.inl hb⟩,_,rfl,_,rfl,_,rfl,_,rfl,ay (show 4<=100 by decide),λp hp=>?_⟩
  have eT:upd H p (.tup [.int q,s1 a,.int r,s1 b]) p=some (.tup ((bk q a r b).map kV)):=aF
  refine⟨_,zC (aB.new hp _ _ hb) eT,?_⟩
  rw[hB q a r b hq hr']
  exact k _ (aB.new hp)
def wt (C:Addr):Sp:=λvs H Q _=>j7 λ(t dx kp bt:Addr) (n m:Nat) (rs:List Str) (x:Str)=>vs=[.ref t,.str x]/\TabAt C H t dx kp bt n m rs/\Row n x/\1<=n/\n<=12/\m<=1000 /\
 ∀ H',TabAt C H' t dx kp bt n (m + 1) (x :: rs)->Ex kp bt H H'->Q .non H'
abbrev kj:List Str:=["self", "row"]
theorem Hr:FnScope kj kj (aS mw):={}
theorem Jg {fw:Addr}{gw:FuncData}(T:Tb K mg C fi fa ft fy fm fc gi ga gt gy gm gc) (Dw:Df K mg "check_row" mj fT fw gw) (Gw:aG P w K mg base (aH P w) 3 fw gw fT qM) (M:Gm mg):aG P w K mg base (aH P w) 4 fa ga kj (wt C):=by
 refine T.Fa.okN Hr (λvs H Q E h=>?_) (λcdv A outer s H vs Q E hr h=>?_)
 ·obtain⟨t,dx,kp,bt,n,m,rs,x,rfl,_⟩:=h
  rfl
 ·obtain⟨t,dx,kp,bt,n,m,rs,x,rfl,⟨ht,c,bvs,hk,hb,hK,hB,lc,lb⟩,hx,n1,n12,m1,k⟩:=h
  have hu:(A.deeper (envOfC "Table.add" (aS mw) s.heap.objs.size fa cdv)).units + 1 < cLine:=by have:=hr.units; omega
  refine⟨_,aK (bd (aO Dw Gw hr aJ (aA (pv 1) (aA (dY (pv 0) rfl) aC))))
   (aK (xN hu (dY (pv 0) rfl) (pv 1) (am dG (xS hu (dY (pv 0) rfl) (pv 1) aM ⟨rfl,rfl,rfl,rfl⟩) aM) rfl)
   (aL (bd (iA (pv 0) T.cl T.my (BV T M) (hr.mono (by decide)) T.by' .nil aJ (aA (pv 1) (aA aM aC)))))),?_⟩
  refine⟨_,rfl,_,rfl,t,C,dx,_,_,rfl,ht,T.cl,T.nQ,rfl,x,n,rfl,hx,n1,n12,λH1 s1'=>?_⟩
  have t1:=s1' _ _ ht
  have k1:=s1' _ _ hk
  have b1:=s1' _ _ hb
  have ev:(b9 (c.map fK) (.inr x)).getD (.int 0)=.int (PySem.W.kprLook c x 0):=by
   rw[tV]
   split
   ·rfl
   ·rename_i z
    rw[PySem.W.kpr_look_none (by simpa using z)]
    rfl
  refine⟨_,rfl,t,C,dx,_,_,rfl,t1,T.cl,T.nK,rfl,kp,rfl,.inl ⟨_,.inl k1⟩,_,rfl,_,fE.k (k:=.inr x) k1,_,_,ev,rfl,?_⟩
  refine⟨_,rfl,t,C,dx,_,_,rfl,t1,T.cl,T.nK,rfl,_,rfl,kp,_,rfl,jX.k (k:=.inr x) k1 ?_,?_⟩
  ·rw[aI,fG]; omega
  have tk:t≠kp:=λz=>by rw[z,hk] at ht; cases ht
  have bk':bt≠kp:=λz=>by rw[z,hk] at hb; cases hb
  have ek:dC (c.map fK) (.inr x) ((λi j=>V.int (i + j)) (PySem.W.kprLook c x 0) 1)=(PySem.W.kprPut c x (PySem.W.kprLook c x 0 + 1)).map fK:=vE c x _
  rw[ek]
  refine⟨_,rfl,t,dx,_,rfl,(by rw[aj tk]; exact t1),rfl,_,rfl,t,dx,kp,bt,n,x,1,iy rs,bvs,rfl,(by rw[aj tk]; exact t1),(by rw[aj bk']; exact b1),hB,by omega,hx,n12,λH' bvs' e' hB' l' k'=>?_⟩
  have lp:=p9 (c.map fK) (.inr x) (.int (PySem.W.kprLook c x 0 + 1))
  rw[vE,aI,aI] at lp
  refine k H' ⟨?_,_,bvs',k' kp _ (fB bk') aF,e',hK.add x,hB'.add,by omega,by omega⟩ λb o h1 h2 e=>?_
  ·exact k' t _ (λz=>by rw[z,hb] at ht; cases ht) (by rw[aj tk]; exact t1)
  ·exact k' b o h2 (by rw[aj h1]; exact s1' b o e)
def G6 (C:Addr):TS:=λD σ H=>o6 λ(t dx kp bt:Addr) (n:Nat) (x:Str) (c:List (Str×Int))=>σ=[some (.ref t),some (.str x)]/\H t=some (.ins C dx (qH n kp bt))/\H kp=some (.dK (c.map fK))/\PySem.W.kprHas c x=true /\
 ∀ H' c',H' kp=some (.dK (c'.map fK))->(PySem.W.kprLook c x 0=0->c'=PySem.W.kprDel c x)->(¬ PySem.W.kprLook c x 0=0->c'=c)->(∀ b o,b≠kp->H b=some o->H' b=some o)->D.nx σ H'
abbrev NS (j:Nat):Stmt:=(dH jd).getD j (.Pass ⟨0,0,0,0⟩)
theorem Ho:FnScope kj kj (aS jd):={}
theorem Ff {cdv:Value}{A:Around}{outer:List Env}{s:Shared}{H0:Hp}{E0':XK}(T:Tb K mg C fi fa ft fy fm fc gi ga gt gy gm gc) (hu:(A.deeper (envOfC "Table.take" (aS jd) s.heap.objs.size ft cdv)).units + 1 < cLine) :
  PS (jO (aH P w) P w K mg base kj "Table.take" (aS jd) ft cdv A outer s H0 E0').nox (NS 3) (G6 C):=by
 refine B6 (bJ (aw cF (BD hu (dY (pv 0) rfl) (pv 1) (λ_ _=>rfl)) aM (ao _)) (aL (J7 (dY (pv 0) rfl) (pv 1))) bO) ?_
 rintro D σ H ⟨t,dx,kp,bt,n,x,c,rfl,ht,hk,hh,k⟩
 have ev:b9 (c.map fK) (.inr x)=some (.int (PySem.W.kprLook c x 0)):=by rw[tV,aP hh]
 refine⟨_,rfl,t,C,dx,_,_,rfl,ht,T.cl,T.nK,rfl,_,rfl,kp,.int (PySem.W.kprLook c x 0),rfl,(by rw[<- ev]; exact fE.k (k:=.inr x) hk),rfl,_,rfl,bG (λz=>?_) (λz=>?_)⟩
 ·have z:decide (V.int (PySem.W.kprLook c x 0)=V.int 0)=true:=z
  rw[iW] at z
  have z:PySem.W.kprLook c x 0=0:=by simpa using z
  refine⟨_,rfl,t,C,dx,_,_,rfl,ht,T.cl,T.nK,rfl,_,rfl,kp,_,.inr x,rfl,hk,rfl,(by rw[ev]; rfl),?_⟩
  rw[DF]
  exact k _ _ aF (λ_=>rfl) (λy=>absurd z y) λb o hb e=>by rw[aj hb]; exact e
 ·have z:¬ decide (V.int (PySem.W.kprLook c x 0)=V.int 0)=true:=z
  rw[iW] at z
  have z:¬ PySem.W.kprLook c x 0=0:=by simpa using z
  exact k H c hk (λy=>absurd y z) (λ_=>rfl) λb o _ e=>e
def A1 (C:Addr):Sp:=λvs H Q _=>gY λ(t dx kp bt:Addr) (n m:Nat) (rs0 rs:List Str) (x:Str)=>vs=[.ref t,.str x]/\TabAt C H t dx kp bt n m rs0/\rs0.Perm (x :: rs)/\Row n x/\1<=n/\n<=12/\m<=1000 /\
 ∀ H',TabAt C H' t dx kp bt n (m + 1) rs->Ex kp bt H H'->Q .non H'
theorem Jc {fw:Addr}{gw:FuncData}(T:Tb K mg C fi fa ft fy fm fc gi ga gt gy gm gc) (Dw:Df K mg "check_row" mj fT fw gw) (Gw:aG P w K mg base (aH P w) 3 fw gw fT qM) (M:Gm mg):aG P w K mg base (aH P w) 4 ft gt kj (A1 C):=by
 refine T.Ft.okN Ho (λvs H Q E h=>?_) (λcdv A outer s H vs Q E hr h=>?_)
 ·obtain⟨t,dx,kp,bt,n,m,rs0,rs,x,rfl,_⟩:=h
  rfl
 ·obtain⟨t,dx,kp,bt,n,m,rs0,rs,x,rfl,⟨ht,c,bvs,hk,hb,hK0,hB0,lc,lb⟩,hp,hx,n1,n12,m1,k⟩:=h
  have hK:=hK0.perm hp
  have hB:=hB0.perm hp
  have hu:(A.deeper (envOfC "Table.take" (aS jd) s.heap.objs.size ft cdv)).units + 1 < cLine:=by have:=hr.units; omega
  refine⟨_,aK (bd (aO Dw Gw hr aJ (aA (pv 1) (aA (dY (pv 0) rfl) aC))))
   (aK (bJ (vF (xT hu (pv 1) (dY (pv 0) rfl))) (aL hC) bO)
   (aK (J8 hu (dY (pv 0) rfl) (pv 1) aM Lo (λ_ _ _=>rfl))
   (aK (Ff T hu)
   (aL (bd (iA (pv 0) T.cl T.my (BV T M) (hr.mono (by decide)) T.by' .nil aJ (aA (pv 1) (aA (vJ tX aM) aC)))))))),?_⟩
  refine⟨_,rfl,_,rfl,t,C,dx,_,_,rfl,ht,T.cl,T.nQ,rfl,x,n,rfl,hx,n1,n12,λH1 s1'=>?_⟩
  have t1:=s1' _ _ ht
  have k1:=s1' _ _ hk
  have b1:=s1' _ _ hb
  have hh:PySem.W.kprHas c x=true:=(hK.has x).mpr eJ
  have ev:b9 (c.map fK) (.inr x)=some (.int (PySem.W.kprLook c x 0)):=by rw[tV,aP hh]
  refine⟨_,rfl,_,rfl,t,C,dx,_,_,rfl,t1,T.cl,T.nK,rfl,kp,some (.int (PySem.W.kprLook c x 0)),rfl,(by rw[<- ev]; exact fE.k (k:=.inr x) k1),_,rfl,aW ?_⟩
  refine⟨_,rfl,t,C,dx,_,_,rfl,t1,T.cl,T.nK,rfl,_,rfl,kp,.int (PySem.W.kprLook c x 0),rfl,(by rw[<- ev]; exact fE.k (k:=.inr x) k1),_,_,rfl,rfl,_,jX.k (k:=.inr x) k1 ?_,?_⟩
  ·rw[aI,fG]; omega
  have tk:t≠kp:=λz=>by rw[z,hk] at ht; cases ht
  have bk':bt≠kp:=λz=>by rw[z,hk] at hb; cases hb
  have tb:t≠bt:=λz=>by rw[z,hb] at ht; cases ht
  rw[vE]
  have lp:=p9 (c.map fK) (.inr x) (.int (PySem.W.kprLook c x 0 - 1))
  rw[vE,aI,aI] at lp
  have t2:upd H1 kp (.dK ((PySem.W.kprPut c x (PySem.W.kprLook c x 0 - 1)).map fK)) t=some (.ins C dx (qH n kp bt)):=by rw[aj tk]; exact t1
  have b2:upd H1 kp (.dK ((PySem.W.kprPut c x (PySem.W.kprLook c x 0 - 1)).map fK)) bt=some (.dT bvs):=by rw[aj bk']; exact b1
  refine⟨t,dx,kp,bt,n,x,PySem.W.kprPut c x (PySem.W.kprLook c x 0 - 1),rfl,t2,aF,(by rw[PySem.W.kpr_has_put]; simp),λH3 c' e3 z0 z1 k3=>?_⟩
  rw[PySem.W.kpr_look_put,aP rfl] at z0 z1
  have hK3:Kept rs c':=by
   by_cases z:PySem.W.kprLook c x 0 - 1=0
   ·rw[z0 z]; exact hK.gone z
   ·rw[z1 z]; exact hK.less z
  have lc':c'.length<=m + 1:=by
   by_cases z:PySem.W.kprLook c x 0 - 1=0
   ·rw[z0 z]
    have:=gT (λp:Str×Int=>!decide (p.1=x)) (PySem.W.kprPut c x (PySem.W.kprLook c x 0 - 1))
    show(List.filter _ _).length<=_
    omega
   ·rw[z1 z]; omega
  have t3:=k3 t _ tk t2
  have b3:=k3 bt _ bk' b2
  refine⟨_,rfl,t,dx,_,rfl,t3,rfl,_,rfl,_,rfl,t,dx,kp,bt,n,x,-1,iy (x :: rs),bvs,rfl,t3,b3,hB,by omega,hx,n12,λH' bvs' e' hB' l' k'=>?_⟩
  refine k H' ⟨k' t _ tb t3,c',bvs',k' kp _ (fB bk') e3,e',hK3,hB'.take,by omega,by omega⟩ λb o h1 h2 e=>?_
  exact k' b o h2 (k3 b o h1 (by rw[aj h1]; exact s1' b o e))
abbrev oW:Stmt:=ak 52
abbrev uV:Stmt:=ak 51
abbrev lU:Stmt:=ak 50
theorem TabAt.mono {C:Addr}{H H':Hp}{t dx kp bt:Addr}{n m:Nat}{rs:List Str}(h:TabAt C H t dx kp bt n m rs)(s:aB H H'):TabAt C H' t dx kp bt n m rs:=by
 obtain⟨i,c,bvs,e1,e2,r⟩:=h
 exact⟨s _ _ i,c,bvs,s _ _ e1,s _ _ e2,r⟩
def HW:Sp:=λvs H Q _=>iL λ(x:Str) (n:Nat)=>vs=[.str x]/\x.length=n/\n<=12/\∀ p H',H p=none->Acc H p H' ((bB x n).map au)->Q (.ref p) H'
theorem Ic:FnScope ["pattern"] ["pattern"] (aS oW):={}
theorem vY:(["question", "sign"]:List Str).Nodup:=by trivial
theorem xf {f:Addr}{fd:FuncData}(D:Df K mg "answers" oW ["pattern"] f fd) (M:Gm mg):aG P w K mg base (aH P w) 1 f fd ["pattern"] HW:=by
 refine D.F.okN Ic (λvs H Q E h=>?_) (λcdv A outer s H vs Q E hr h=>?_)
 ·obtain⟨x,n,rfl,_⟩:=h
  rfl
 ·obtain⟨x,n,rfl,hx,n12,k⟩:=h
  refine⟨_,aL (aX (cS (g:=eW K 2 (cG (cB 0) (cG (cB 1) eX))) (N':=["question", "sign"]) (fm:=[none,none]) rfl ⟨rfl,by trivial,by trivial,rfl,rfl,rfl⟩
    (og (by rfl) M.enum (aA (pv 0) aC))
    (λ_ _ _ _=>dF rfl (bF (aU (i:=0) vY rfl (Or.inl rfl)) (bF (aU (i:=1) vY rfl (Or.inl rfl)) dE)))
    (λ_ _ _ _=>eV (aw jt (pv 1) av (ao _)))
    (λ_ _ _ _=>dO (aA (pv 0) (aA (pv 1) aC))))),?_⟩
  refine⟨_,rfl,x,rfl,λp hp=>?_⟩
  refine wF (λi σ H2=>∃ v0 v1,σ=[v0,v1]/\Acc H p H2 ((bB x i).map au)) ⟨none,none,rfl,aB.new hp,[],aF,cH.nil⟩ ?_ ?_
  ·rintro i T σ H2 hi hT ⟨v0,v1,rfl,a2⟩
   rw[hx] at hi
   have sT:=aB.new (o:=.tup [.int i,sg x i]) hT
   refine⟨T,_,rfl,bT.of aF,rfl,_,_,rfl,_,_,rfl,rfl,?_⟩
   refine⟨_,rfl,rfl,_,rfl,bG (λz=>?_) (λz=>?_)⟩
   ·have z:(!decide (s1 (ch x i)=s1 45))=true:=z
    rw[eP] at z
    have z:¬ ch x i=45:=by simpa using z
    refine⟨_,rfl,_,rfl,ay (show 2<=100 by decide),λT2 hT2=>?_⟩
    obtain⟨ys,e1,l1,a3⟩:=a2.put (k:=au (i,ch x i)) hp sT hT2
    refine⟨ys,e1,?_,_,_,rfl,?_⟩
    ·rw[l1,aI]
     have:=nN x i
     exact cA (show _<=12 by omega) (by decide)
    ·have e:(bB x (i + 1)).map au=(bB x i).map au ++ [au (i,ch x i)]:=by
      rw[ya]; unfold kh; rw[aN z,bQ]; rfl
     rw[e]
     exact a3
   ·have z:¬ (!decide (s1 (ch x i)=s1 45))=true:=z
    rw[eP] at z
    have z:ch x i=45:=by simpa using z
    refine⟨_,_,rfl,?_⟩
    have e:(bB x (i + 1)).map au=(bB x i).map au:=by
     rw[ya]; unfold kh; rw[aP z,gX]
    rw[e]
    exact a2.mono sT
  ·rintro σ H2 ⟨v0,v1,rfl,a2⟩
   rw[hx] at a2
   exact k p H2 hp a2
def A9 (C:Addr):Sp:=λvs H Q _=>gY λ(t dx kp bt:Addr) (n m:Nat) (rs:List Str) (x:Str) (c:Nat)=>vs=[.ref t,.str x,.int c]/\TabAt C H t dx kp bt n m rs/\dQ n x/\n<=12/\∀ p H',H p=none->Acc H p H' (fM rs c (bB x n))->Q (.ref p) H'
abbrev Npg:List Str:=["table", "pattern", "many", "given"]
abbrev sH:List Str:=["table", "pattern", "many"]
theorem Ai:FnScope Npg sH (aS uV):={}
abbrev Npc:List Str:=["q", "a", "r", "b", "given", "table", "many"]
theorem vW:Npc.Nodup:=by trivial
theorem uA {n:Nat}{x:Str}(h:dQ n x){p:Nat×Nat}(hp:p∈bB x n):p.1 < n/\iI p.2:=by
 obtain⟨h1,h2,h3⟩:=m8 hp
 have:=h.sgn p.1 h1
 exact⟨h1,by unfold iI; omega⟩
theorem gI {f fn:Addr}{fd gn:FuncData}(D:Df K mg "pairs_given" uV sH f fd) (Dn:Df K mg "answers" oW ["pattern"] fn gn) (T:Tb K mg C fi fa ft fy fm fc gi ga gt gy gm gc) (Gc:aG P w K mg base (aH P w) 3 fc gc kC (lK C)) (M:Gm mg):aG P w K mg base (aH P w) 4 f fd sH (A9 C):=by
 refine D.F.okN Ai (λvs H Q E h=>?_) (λcdv A outer s H vs Q E hr h=>?_)
 ·obtain⟨t,dx,kp,bt,n,m,rs,x,c,rfl,_⟩:=h
  rfl
 ·obtain⟨t,dx,kp,bt,n,m,rs,x,c,rfl,tab,hx,n12,k⟩:=h
  refine⟨_,aK (aq (i:=3) Ai.nd rfl (Or.inr rfl) (aO Dn (xf Dn M) (hr.mono (by decide)) aJ (aA (pv 1) aC)))
   (aL (aX (vK (g:=eW K 2 (cG (cB 0) (cG (cB 1) eX))) (N':=Npc) (fm:=[none,none,none,none,some 3,some 0,some 2]) rfl ⟨rfl,by trivial,by trivial,rfl,rfl,rfl⟩
    (cK (pv 3)) (λ_ _ _ _=>dF rfl (bF (aU (i:=0) vW rfl (Or.inl rfl)) (bF (aU (i:=1) vW rfl (Or.inl rfl)) dE))) (λ_ _ _ _=>cU)
    (λ_ _ _ _ _=>qx (wi:=vi K (fJ 4)) (g:=eW K 2 (cG (cB 2) (cG (cB 3) eX))) rfl (λ_ _ z=>z) (cK (pv 4)) (dF rfl (bF (aU (i:=2) vW rfl (Or.inl rfl)) (bF (aU (i:=3) vW rfl (Or.inl rfl)) dE)))
      (eV (dw (i9 (aw JV (pv 0) (pv 2) (ao _)) (iP (aw cF (iA (pv 5) T.cl T.mc Gc hr T.bc .nil aJ (aA (pv 0) (aA (pv 1) (aA (pv 2) (aA (pv 3) aC))))) (pv 6) (ao _))))))
      (qy (λ_ _ z=>z) (dO (aA (pv 0) (aA (pv 2) aC)))))))),?_⟩
  refine⟨_,rfl,x,n,rfl,hx.len,n12,λg H1 hg a1=>?_⟩
  obtain⟨s1',grs,eg,tg⟩:=a1
  refine⟨_,rfl,g,rfl,⟨_,aD.of eg⟩,λp hp=>?_⟩
  have gl:=nN x n
  have hpH:H p=none:=by
   cases z:H p with
   | none=>rfl
   | some o=>rw[s1' _ _ z] at hp; cases hp
  have lG:grs.length=(bB x n).length:=by rw[tg.1,aI]
  refine vg (K:=K) (a:=g) (xs:=grs.map V.ref) (λi σ H2=>∃ v0 v1 v2 v3,σ=[v0,v1,v2,v3,some (.ref g),some (.ref t),some (.int c)]/\Acc H1 p H2 (eC (bB x n) i (qw rs c (bB x n)))) ⟨none,none,none,none,rfl,aB.new hp,[],aF,cH.nil⟩
   (λi σ H2 _ ⟨_,_,_,_,_,a2⟩=>aD.of (a2.same _ _ eg)) ?_ ?_
  ·rintro i y σ H2 hi ⟨v0,v1,v2,v3,rfl,a2⟩
   obtain⟨r1,k1,rfl,ek,er⟩:=(tg.mono a2.same).item hi
   rw[ar] at ek
   cases z:(bB x n)[i]? with
   | none=>rw[z] at ek; cases ek
   | some pq =>
    rw[z] at ek
    cases ek
    obtain⟨q1,sq⟩:=uA hx (bI z)
    have i12:i < 12:=by have:=(cE.mp z).1; omega
    refine xt (bT.of er) ?_
    refine⟨_,rfl,g,rfl,⟨_,aD.of (a2.same _ _ eg)⟩,?_⟩
    refine vg (K:=K) (a:=g) (xs:=grs.map V.ref) (λj σ H3=>∃ v2 v3,σ=[some (.int pq.1),some (s1 pq.2),v2,v3,some (.ref g),some (.ref t),some (.int c)]/\Acc H1 p H3 (eC (bB x n) i (qw rs c (bB x n)) ++ eC (bB x n) j (fZ rs c pq))) ⟨_,_,rfl,by simpa [eC] using a2⟩
     (λj σ H3 _ ⟨_,_,_,a3⟩=>aD.of (a3.same _ _ eg)) ?_ ?_
    ·rintro j y σ H3 hj ⟨v2,v3,rfl,a3⟩
     obtain⟨r2,k2,rfl,ek2,er2⟩:=(tg.mono a3.same).item hj
     rw[ar] at ek2
     cases z2:(bB x n)[j]? with
     | none=>rw[z2] at ek2; cases ek2
     | some rq =>
      rw[z2] at ek2
      cases ek2
      obtain⟨r1',sr⟩:=uA hx (bI z2)
      have j12:j < 12:=by have:=(cE.mp z2).1; omega
      have no:¬ (pq.1<=rq.1/\aT rs pq.1 pq.2 rq.1 rq.2=c)->eC (bB x n) (j + 1) (fZ rs c pq)=eC (bB x n) j (fZ rs c pq):=λy=>by
       rw[oE z2]; unfold fZ; rw[aN y,gX]
      refine⟨r2,_,rfl,bT.of er2,rfl,_,_,rfl,_,_,rfl,rfl,?_⟩
      refine⟨_,rfl,_,rfl,_,_,rfl,rfl,_,rfl,bG (λz0=>?_) (λz0=>?_)⟩
      ·have z0:(pq.1:Int)<=rq.1:=cw z0
       have tab3:=tab.mono (s1'.trans' a3.same)
       refine⟨_,rfl,t,dx,_,rfl,tab3.ins,rfl,_,rfl,_,rfl,_,rfl,_,rfl,t,dx,kp,bt,n,m,rs,pq.1,pq.2,rq.1,rq.2,rfl,tab3,q1,r1',sq,sr,λH6 s6=>⟨_,rfl,rfl,_,rfl,?_⟩⟩
       refine bG (λy=>?_) (λy=>?_)
       ·have y:decide (V.int (aT rs pq.1 pq.2 rq.1 rq.2:Nat)=V.int (c:Nat))=true:=y
        rw[iW] at y
        have y:aT rs pq.1 pq.2 rq.1 rq.2=c:=by
         have:((aT rs pq.1 pq.2 rq.1 rq.2:Nat):Int)=(c:Nat):=by simpa using y
         omega
        refine⟨_,rfl,_,rfl,ay (show 2<=100 by decide),λT1 hT=>?_⟩
        obtain⟨ys,e1,l1,a6⟩:=a3.put (k:=qk pq.1 rq.1) hp s6 hT
        refine⟨ys,e1,?_,_,_,rfl,?_⟩
        ·rw[l1]
         refine Ha _ ?_
         have h1:=mR (l:=bB x n) (JI rs c (bB x n)) i
         have h4:=mR (l:=bB x n) (B9 rs c pq) j
         have h5:i * (bB x n).length<=12 * 12:=tG (by omega) (by omega)
         rw[cR]
         omega
        ·have e:eC (bB x n) (j + 1) (fZ rs c pq)=eC (bB x n) j (fZ rs c pq) ++ [qk pq.1 rq.1]:=by
          rw[oE z2]; unfold fZ; rw[aP ⟨by omega,y⟩]
         rw[e,<- pU]
         exact a6
       ·have y:¬ decide (V.int (aT rs pq.1 pq.2 rq.1 rq.2:Nat)=V.int (c:Nat))=true:=y
        rw[iW] at y
        refine⟨_,_,rfl,?_⟩
        rw[no (λw=>y (by rw[w.2]; exact iH _))]
        exact a3.mono s6
      ·have z0:¬ decide ((pq.1:Int)<=rq.1)=true:=z0
       have z0:¬ (pq.1:Int)<=rq.1:=by simpa using z0
       refine aW ⟨_,_,rfl,?_⟩
       rw[no (λw=>z0 (by omega))]
       exact a3
    ·rintro σ H3 ⟨v2,v3,rfl,a3⟩
     refine⟨_,_,_,_,rfl,?_⟩
     rw[oE z]
     rw[aI,lG] at a3
     exact a3
  ·rintro σ H2 ⟨v0,v1,v2,v3,rfl,a2⟩
   rw[aI,lG] at a2
   exact k p H2 hpH (a2.back s1')
abbrev mo:Stmt:=ak 25
abbrev ug:Stmt:=ak 28
def oN (C:Addr):Sp:=λvs H Q _=>j7 λ(t dx kp bt:Addr) (n m:Nat) (rs:List Str) (x:Str)=>vs=[.ref t,.str x]/\TabAt C H t dx kp bt n m rs/\dQ n x/\n<=12/\∀ p H',H p=none->Acc H p H' (fM rs 0 (bB x n))->Q (.ref p) H'
abbrev cX:List Str:=["table", "pattern"]
theorem IM:FnScope cX cX (aS lU):={}
theorem gJ {f fp:Addr}{fd gp:FuncData}(D:Df K mg "gaps" lU cX f fd) (Dp:Df K mg "pairs_given" uV sH fp gp) (Gp:aG P w K mg base (aH P w) 4 fp gp sH (A9 C)):aG P w K mg base (aH P w) 5 f fd cX (oN C):=by
 refine D.F.okN IM (λvs H Q E h=>?_) (λcdv A outer s H vs Q E hr h=>?_)
 ·obtain⟨t,dx,kp,bt,n,m,rs,x,rfl,_⟩:=h
  rfl
 ·obtain⟨t,dx,kp,bt,n,m,rs,x,rfl,tab,hx,n12,k⟩:=h
  refine⟨_,aL (aX (aO Dp Gp hr aJ (aA (pv 0) (aA (pv 1) (aA aM aC))))),?_⟩
  exact⟨_,rfl,_,rfl,t,dx,kp,bt,n,m,rs,x,0,rfl,tab,hx,n12,k⟩
abbrev oQ:Stmt:=ak 33
abbrev qX:Stmt:=ak 53
abbrev mi:Stmt:=ak 54
def js (x:Str)(q:Nat):List Nat:=if ch x q=45 then [q] else []
def dZ (x:Str)(n:Nat):List Nat:=(List.range n).flatMap (js x)
theorem vO (x:Str)(n:Nat):dZ x (n + 1)=dZ x n ++ js x n:=by unfold dZ; rw[mH,pS]; simp
theorem vP (x:Str):∀ n,(dZ x n).length<=n
 | 0=>by simp[dZ]
 | n + 1=>by
  rw[vO,cR]
  have:(js x n).length<=1:=by unfold js; split <;> simp
  have:=vP x n
  omega
theorem n0 {x:Str}{n q:Nat}:q∈dZ x n↔q < n/\ch x q=45:=by
 constructor
 ·intro h
  obtain⟨i,hi,h⟩:=eS.mp h
  unfold js at h
  split at h
  ·rename_i z
   rw[bH.mp h]
   exact⟨bK.mp hi,z⟩
  ·cases h
 ·rintro⟨h1,h2⟩
  refine eS.mpr ⟨q,bK.mpr h1,?_⟩
  unfold js
  rw[aP h2]
  exact bH.mpr rfl
def vN (q:Nat):V:=.int (q:Nat)
def GZ:Sp:=λvs H Q _=>iL λ(x:Str) (n:Nat)=>vs=[.str x]/\x.length=n/\n<=12/\∀ p H',H p=none->aB H H'->H' p=some (.lst ((dZ x n).map vN))->Q (.ref p) H'
theorem Hx:FnScope ["pattern"] ["pattern"] (aS qX):={}
theorem BW {f:Addr}{fd:FuncData}(D:Df K mg "open_places" qX ["pattern"] f fd) (M:Gm mg):aG P w K mg base (aH P w) 1 f fd ["pattern"] GZ:=by
 refine D.F.okN Hx (λvs H Q E h=>?_) (λcdv A outer s H vs Q E hr h=>?_)
 ·obtain⟨x,n,rfl,_⟩:=h
  rfl
 ·obtain⟨x,n,rfl,hx,n12,k⟩:=h
  refine⟨_,aL (aX (cS (g:=eW K 2 (cG (cB 0) (cG (cB 1) eX))) (N':=["question", "sign"]) (fm:=[none,none]) rfl ⟨rfl,by trivial,by trivial,rfl,rfl,rfl⟩
    (og (by rfl) M.enum (aA (pv 0) aC))
    (λ_ _ _ _=>dF rfl (bF (aU (i:=0) vY rfl (Or.inl rfl)) (bF (aU (i:=1) vY rfl (Or.inl rfl)) dE)))
    (λ_ _ _ _=>eV (aw cF (pv 1) av (ao _)))
    (λ_ _ _ _=>pv 0))),?_⟩
  refine⟨_,rfl,x,rfl,λp hp=>?_⟩
  refine wF (λi σ H2=>∃ v0 v1,σ=[v0,v1]/\aB H H2/\H2 p=some (.lst ((dZ x i).map vN))) ⟨none,none,rfl,aB.new hp,aF⟩ ?_ ?_
  ·rintro i T σ H2 hi hT ⟨v0,v1,rfl,s2,e2⟩
   rw[hx] at hi
   have sT:=aB.new (o:=.tup [.int i,sg x i]) hT
   refine⟨T,_,rfl,bT.of aF,rfl,_,_,rfl,_,_,rfl,rfl,?_⟩
   refine⟨_,rfl,rfl,_,rfl,bG (λz=>?_) (λz=>?_)⟩
   ·have z:decide (s1 (ch x i)=s1 45)=true:=z
    rw[eP] at z
    have z:ch x i=45:=by simpa using z
    refine⟨_,rfl,_,sT _ _ e2,?_,_,_,rfl,bW hp (s2.trans' sT),?_⟩
    ·rw[aI]
     have:=vP x i
     exact cA (show _<=12 by omega) (by decide)
    ·rw[aF,vO,bQ]
     unfold js
     rw[aP z]
     rfl
   ·have z:¬ decide (s1 (ch x i)=s1 45)=true:=z
    rw[eP] at z
    have z:¬ ch x i=45:=by simpa using z
    refine⟨_,_,rfl,s2.trans' sT,?_⟩
    rw[vO]
    unfold js
    rw[aN z,gX]
    exact sT _ _ e2
  ·rintro σ H2 ⟨v0,v1,rfl,s2,e2⟩
   rw[hx] at e2
   exact k p H2 hp s2 e2
def qK (C:Addr):Sp:=λvs H Q _=>F7 λ(t dx kp bt:Addr) (n m:Nat) (rs:List Str) (x:Str) (q a:Nat)=>vs=[.ref t,.str x,.int q,s1 a]/\TabAt C H t dx kp bt n m rs/\dQ n x/\n<=12/\q < n/\iI a/\∀(b:Bool) H',(b=true↔eM rs n x q a)->aB H H'->Q (.bl b) H'
abbrev Nft:List Str:=["table", "pattern", "question", "sign", "given"]
abbrev jS:List Str:=["table", "pattern", "question", "sign"]
theorem Am:FnScope Nft jS (aS mi):={}
abbrev Nfc:List Str:=["r", "b", "table", "question", "sign"]
theorem C4:Nfc.Nodup:=by trivial
def rR (rs:List Str)(q a:Nat)(p:Nat×Nat):Bool:=decide (0 < aT rs q a p.1 p.2)
theorem MG (rs:List Str)(n:Nat)(x:Str)(q a:Nat)(hq:q < n):((bB x n ++ [(q,a)]).map (rR rs q a)).all id=true↔eM rs n x q a:=by
 rw[jU]
 constructor
 ·intro h
  refine⟨cw (h _ (cI.mpr ⟨(q,a),eK _ (bH.mpr rfl),rfl⟩)),λr hr hx=>?_⟩
  exact cw (h _ (cI.mpr ⟨(r,ch x r),pR _ (p5 hr hx),rfl⟩))
 ·rintro⟨h1,h2⟩ b hb
  obtain⟨p,hp,rfl⟩:=cI.mp hb
  refine bR ?_
  rcases gQ.mp hp with hp | hp
  ·obtain⟨e1,e2,e3⟩:=m8 hp
   rw[e2]
   exact h2 p.1 e1 (by rw[<- e2]; exact e3)
  ·rw[bH.mp hp]; exact h1
theorem om {f fn:Addr}{fd gn:FuncData}(D:Df K mg "fits" mi jS f fd) (Dn:Df K mg "answers" oW ["pattern"] fn gn) (T:Tb K mg C fi fa ft fy fm fc gi ga gt gy gm gc) (Gc:aG P w K mg base (aH P w) 3 fc gc kC (lK C)) (B:Bt mg) (M:Gm mg):aG P w K mg base (aH P w) 4 f fd jS (qK C):=by
 refine D.F.okN Am (λvs H Q E h=>?_) (λcdv A outer s H vs Q E hr h=>?_)
 ·obtain⟨t,dx,kp,bt,n,m,rs,x,q,a,rfl,_⟩:=h
  rfl
 ·obtain⟨t,dx,kp,bt,n,m,rs,x,q,a,rfl,tab,hx,n12,hq,ha,k⟩:=h
  refine⟨_,aK (aq (i:=4) Am.nd rfl (Or.inl rfl) (am JW (aO Dn (xf Dn M) (hr.mono (by decide)) aJ (aA (pv 1) aC)) (cT (aA (dO (aA (pv 2) (aA (pv 3) aC))) aC))))
   (aL (aX (bC (j5 rfl) (by rfl) B.all (by rfl) (aA (cS (g:=eW K 2 (cG (cB 0) (cG (cB 1) eX))) (N':=Nfc) (fm:=[none,none,some 0,some 2,some 3]) rfl ⟨rfl,by trivial,by trivial,rfl,rfl,rfl⟩
    (cK (pv 4)) (λ_ _ _ _=>dF rfl (bF (aU (i:=0) C4 rfl (Or.inl rfl)) (bF (aU (i:=1) C4 rfl (Or.inl rfl)) dE))) (λ_ _ _ _=>cU)
    (λ_ _ _ _=>eO n5 (iA (pv 2) T.cl T.mc Gc hr T.bc .nil aJ (aA (pv 3) (aA (pv 4) (aA (pv 0) (aA (pv 1) aC))))) aM (ao _))) aC)))),?_⟩
  refine⟨_,rfl,x,n,rfl,hx.len,n12,λg H1 hg a1=>?_⟩
  obtain⟨s1',grs,eg,tg⟩:=a1
  refine⟨_,rfl,_,rfl,ay (show 2<=100 by decide),λT1 hT1=>⟨ay (show 1<=100 by decide),λl1 hl1=>?_⟩⟩
  have sT:=aB.new (o:=.tup [.int q,s1 a]) hT1
  have sl:=aB.new (o:=.lst [.ref T1]) hl1
  have s3:=sT.trans' sl
  have gl:=nN x n
  refine⟨g,l1,_,_,rfl,rfl,s3 _ _ eg,aF,?_,λg2 hg2=>?_⟩
  ·rw[aI,tg.1,aI]
   exact ay (show(bB x n).length + 1<=100 by omega)
  have s4:=aB.new (o:=.lst (grs.map V.ref ++ [.ref T1])) hg2
  have s14:=s3.trans' s4
  have tk:cH (upd (upd (upd H1 T1 (.tup [.int q,s1 a])) l1 (.lst [.ref T1])) g2 (.lst (grs.map V.ref ++ [.ref T1]))) (grs ++ [T1]) ((bB x n ++ [(q,a)]).map au):=by
   rw[bQ]
   exact(tg.mono s14).append (.one (s4 _ _ (sl _ _ aF)))
  have eg2:upd (upd (upd H1 T1 (.tup [.int q,s1 a])) l1 (.lst [.ref T1])) g2 (.lst (grs.map V.ref ++ [.ref T1])) g2=some (.lst ((grs ++ [T1]).map V.ref)):=by
   rw[aF,bQ]; rfl
  refine⟨_,rfl,g2,rfl,⟨_,aD.of eg2⟩,λp hp=>?_⟩
  have lG:(grs ++ [T1]).length=(bB x n ++ [(q,a)]).length:=by rw[tk.1,aI]
  have pats:∀ pr∈bB x n ++ [(q,a)],pr.1 < n/\iI pr.2:=λpr h=>by
   rcases gQ.mp h with h | h
   ·exact uA hx h
   ·rw[bH.mp h]; exact⟨hq,ha⟩
  refine eI (K:=K) (a:=g2) (xs:=(grs ++ [T1]).map V.ref) (λi σ H2=>∃ v0 v1,σ=[v0,v1,some (.ref t),some (.int q),some (s1 a)]/\aB (upd (upd (upd H1 T1 (.tup [.int q,s1 a])) l1 (.lst [.ref T1])) g2 (.lst (grs.map V.ref ++ [.ref T1]))) H2/\H2 p=some (.lst ((((bB x n ++ [(q,a)]).take i).map (rR rs q a)).map V.bl)))
   ⟨none,none,rfl,aB.new hp,aF⟩ (λi σ H2 _ ⟨_,_,_,s2,_⟩=>aD.of (s2 _ _ eg2)) ?_ ?_
  ·rintro i y σ H2 hi ⟨v0,v1,rfl,s2,e2⟩
   obtain⟨r1,k1,rfl,ek,er⟩:=(tk.mono s2).item hi
   rw[ar] at ek
   cases z:(bB x n ++ [(q,a)])[i]? with
   | none=>rw[z] at ek; cases ek
   | some pr =>
    rw[z] at ek
    cases ek
    obtain⟨p1,p2⟩:=pats pr (bI z)
    have tab2:=tab.mono (s1'.trans' (s14.trans' s2))
    refine lI er ?_
    refine⟨_,rfl,t,dx,_,rfl,tab2.ins,rfl,_,rfl,_,rfl,_,rfl,_,rfl,t,dx,kp,bt,n,m,rs,q,a,pr.1,pr.2,rfl,tab2,hq,p1,ha,p2,λH6 s6=>?_⟩
    refine⟨_,_,rfl,rfl,_,s6 _ _ e2,?_,_,_,rfl,bW hp (s2.trans' s6),?_⟩
    ·rw[aI,aI,cZ,cR]
     exact cA (show _<=13 by show min i ((bB x n).length + 1)<=13; omega) (by decide)
    ·rw[aF,dA,z,bQ,bQ]
     have e:rR rs q a pr=decide ((0:Int) < (aT rs q a pr.1 pr.2:Nat)):=by
      unfold rR
      exact nH.mpr ⟨λh=>by omega,λh=>by omega⟩
     show some (HO.lst (_ ++ [V.bl (decide ((0:Int) < (aT rs q a pr.1 pr.2:Nat)))]))=some (HO.lst (_ ++ [V.bl (rR rs q a pr)]))
     rw[e]
  ·rintro σ H2 ⟨v0,v1,rfl,s2,e2⟩
   rw[aI,lG,cW] at e2
   exact⟨p,_,rfl,aD.of e2,k _ H2 (MG rs n x q a hq) (s1'.trans' (s14.trans' s2))⟩
def GR:Sp:=λvs H Q _=>kF λ(x:Str) (n q a:Nat)=>vs=[.str x,.int q,s1 a]/\x.length=n/\q < n/\n<=100/\Q (.str (tx n (cJ x q a))) H
abbrev nV:List Str:=["pattern", "question", "sign"]
theorem Hl:FnScope nV nV (aS oQ):={}
theorem xW {f:Addr}{fd:FuncData}(D:Df K mg "with_answer" oQ nV f fd):aG P w K mg base (aH P w) 1 f fd nV GR:=by
 refine D.F.okN Hl (λvs H Q E h=>?_) (λcdv A outer s H vs Q E hr h=>?_)
 ·obtain⟨x,n,q,a,rfl,_⟩:=h
  rfl
 ·obtain⟨x,n,q,a,rfl,hx,hq,hn,k⟩:=h
  refine⟨_,aL (aX (am kQ (am kQ (jq u8 (pv 0) jp (jo (pv 1))) (pv 2)) (jq u8 (pv 0) (jo (am dG (pv 1) aM)) jp))),?_⟩
  have sz:x.length<=sizeLine:=by rw[hx]; exact ay hn
  have l1:=nP x none (some (q:Int))
  have l2:=nP x (some ((q:Int) + 1)) none
  refine⟨_,rfl,_,rfl,_,rfl,_,rfl,sz,_,rfl,_,_,rfl,rfl,?_,_,rfl,_,rfl,_,_,rfl,rfl,_,rfl,_,rfl,sz,_,_,rfl,rfl,?_,?_⟩
  ·show(Txt.slice x none (some (q:Int))).length + 1<=sizeLine
   rw[fG]; omega
  ·have e:(Txt.slice x none (some (q:Int)) ++ (⟨#[a]⟩:Str)).length=(Txt.slice x none (some (q:Int))).length + 1:=by
    show((Txt.slice x none (some (q:Int))).cps ++ #[a]).size=_
    rw[Array.size_append]; rfl
   show(Txt.slice x none (some (q:Int)) ++ (⟨#[a]⟩:Str)).length + (Txt.slice x (some ((q:Int) + 1)) none).length<=sizeLine
   rw[e,fG]; omega
  ·have:=zL (a:=a) hx hq
   rw[<- this] at k
   exact k
end
section
variable {P:Program}{w:World}{K:PySem.W.Frag}{mg:Str->Option Value}{base:Heap}{C fi fa ft fy fm fc:Addr}{gi ga gt gy gm gc:FuncData}{W BC BS fW fC fS:Addr}{gW gC gS:FuncData}
def rP (g:Str)(a:Nat):Bool:=decide (a∈g.cps.toList)
theorem Lq (g:Str)(a:Nat):(!(Builtin.Str.occurrences g ⟨#[a]⟩ 0 g.length 1).isEmpty)=rP g a:=by
 rw[PySem.StrLaws.found_one]
 rfl
def Gd:Sp:=λvs H Q _=>iL λ(x g:Str)=>vs=[.str x,.str g]/\x.length<=100/\∀ H',aB H H'->Q (.bl (((List.range x.length).map λi=>rP g (ch x i)).all id)) H'
theorem Jp {f:Addr}{fd:FuncData}(D:Df K mg "only_of" oR mE f fd) (B:Bt mg):aG P w K mg base (aH P w) 1 f fd mE Gd:=by
 refine D.F.okN Aj (λvs H Q E h=>?_) (λcdv A outer s H vs Q E hr h=>?_)
 ·obtain⟨x,g,rfl,_⟩:=h
  rfl
 ·obtain⟨x,g,rfl,hn,k⟩:=h
  refine⟨_,aL (aX (bC (j5 rfl) (by rfl) B.all (by rfl) (aA
   (cS (N':=["sign", "signs"]) (fm:=[none,some 1]) rfl ⟨rfl,by trivial,by trivial,rfl,rfl,rfl⟩
    (lY (pv 0)) (λ_ _ _ _=>aU (i:=0) Bv rfl (Or.inl rfl)) (λ_ _ _ _=>cU)
    (λ_ _ _ _=>eO BN (pv 0) (pv 1) (by rfl))) aC))),?_⟩
  refine⟨_,rfl,_,rfl,λp hp=>?_⟩
  refine rb (λi σ H2=>∃ u,σ=[u,some (.str g)]/\aB H H2/\H2 p=some (.lst ((List.range i).map λj=>V.bl (rP g (ch x j))))) ⟨none,rfl,aB.new hp,aF⟩ ?_ ?_
  ·rintro i σ H2 hi ⟨u,rfl,s2,e2⟩
   refine eN ⟨_,rfl,_,rfl,_,_,rfl,rfl,_,e2,h9 _ _ (by omega),_,rfl,bW hp s2,?_⟩
   rw[aF,<- iu]
   show some (HO.lst (_ ++ [V.bl _]))=_
   rw[show(!(Builtin.Str.occurrences g ⟨#[x.cps.getD i 0]⟩ 0 g.length 1).isEmpty)=rP g (ch x i) from Lq g _]
  ·rintro σ H2 ⟨u,rfl,s2,e2⟩
   rw[xr] at e2
   exact⟨p,_,rfl,aD.of e2,k H2 s2⟩
abbrev qb:Stmt:=ak 46
theorem Bn {a:Nat}:a∈(("ny" : Str) ++ ("-" : Str)).cps.toList↔(a=121∨a=110∨a=45):=by
 show a∈[110,121,45]↔_
 simp
 omega
theorem JR {n:Nat}{x:Str}(hl:x.length=n):((List.range x.length).map λi=>rP (("ny" : Str) ++ ("-" : Str)) (ch x i)).all id=true↔dQ n x:=by
 rw[jU]
 constructor
 ·intro h
  refine⟨hl,λi hi=>?_⟩
  exact Bn.mp (cw (h _ (cI.mpr ⟨i,bK.mpr (by omega),rfl⟩)))
 ·rintro h b hb
  obtain⟨i,hi,rfl⟩:=cI.mp hb
  exact bR (Bn.mpr (h.sgn i (by have:=bK.mp hi; omega)))
def mB (x:Str)(n:Nat)(z:Str):Bool:=(List.range n).all λi=>decide (ch x i=45∨ch x i=ch z i)
theorem vd {x:Str}{n:Nat}(z:Str):mB x n z=true↔∀ i,i < n->ch x i=45∨ch x i=ch z i:=by
 unfold mB
 rw[jU]
 exact⟨λh i hi=>cw (h i (bK.mpr hi)),λh i hi=>bR (h i (bK.mp hi))⟩
noncomputable def mL (rs:List Str)(x:Str)(n:Nat):List Str:=(jG rs n).filter (mB x n)
theorem BI (x:Str):∀ n,(dZ x n).Pairwise (· < ·)
 | 0=>List.Pairwise.nil
 | n + 1=>by
  rw[vO]
  refine List.pairwise_append.mpr ⟨BI x n,?_,λa ha b hb=>?_⟩
  ·unfold js; split
   ·exact pQ _ _
   ·exact List.Pairwise.nil
  ·have:=(n0.mp ha).1
   unfold js at hb
   split at hb
   ·rw[bH.mp hb]; exact this
   ·cases hb
theorem JS {x:Str}{n j q:Nat}(h:(dZ x n)[j]? = some q):∀ i∈(dZ x n).take j,i < q:=by
 intro i hi
 have s:=BI x n
 have e:dZ x n=(dZ x n).take j ++ (dZ x n).drop j:=(List.take_append_drop _ _).symm
 rw[e] at s
 refine(List.pairwise_append.mp s).2.2 i hi q ?_
 have:=bI (l:=(dZ x n).drop j) (i:=0) (a:=q) (by rw[yq]; simpa using h)
 exact this
theorem C9 (rs:List Str)(n q:Nat)(p:Str):(iT rs n q p).length<=2:=by
 unfold iT gK
 rw[cR]
 split <;> split <;> simp
noncomputable def lr (rs:List Str)(n:Nat)(p:Str)(q:Nat):Nat->List Str
 | 0=>[]
 | 1=>gK rs n p q 110
 | _=>iT rs n q p
theorem C8 (rs:List Str)(n:Nat)(p:Str)(q j:Nat):(lr rs n p q j).length<=2:=by
 match j with
 | 0=>exact bX _
 | 1=>show(gK rs n p q 110).length<=2; unfold gK; split <;> simp
 | j + 2=>exact C9 rs n q p
theorem vo {rs:List Str}{n q:Nat}:∀ l:List Str,(l.flatMap (iT rs n q)).length<=2 * l.length
 | []=>aY _
 | p :: r=>by
  rw[yr,cR,dm]
  have:=vo (rs:=rs) (n:=n) (q:=q) r
  have:=C9 rs n q p
  omega
def AM:Sp:=λvs H Q _=>iL λ(x:Str) (n:Nat)=>vs=[.str x,.int n]/\x.length<=100/\1<=n/\n<=12/\∀(b:Bool) H',(b=true↔dQ n x)->aB H H'->Q (.bl b) H'
abbrev fV:List Str:=["pattern", "questions"]
theorem IH:FnScope fV fV (aS ug):={}
theorem oh {f fc' fo:Addr}{fd gc' go:FuncData}(D:Df K mg "is_pattern" ug fV f fd) (Dc:Df K mg "check_count" mq ["questions"] fc' gc') (Do:Df K mg "only_of" oR mE fo go) (B:Bt mg) (M:Gm mg):aG P w K mg base (aH P w) 2 f fd fV AM:=by
 refine D.F.okN IH (λvs H Q E h=>?_) (λcdv A outer s H vs Q E hr h=>?_)
 ·obtain⟨x,n,rfl,_⟩:=h
  rfl
 ·obtain⟨x,n,rfl,hx,n1,n12,k⟩:=h
  obtain⟨t,mS⟩:=M.signs
  refine⟨_,aK (bd (aO Dc (xc Dc M) hr aJ (aA (pv 1) aC)))
   (aL (aX (jr (eO cF (bC j4 (by rfl) B.len d7 (aA (pv 0) aC)) (pv 1) (ao _))
    (lZ (aO Do (Jp Do B) hr aJ (aA (pv 0) (aA (am kQ (kN (v:=.str "ny") (by rfl) mS ⟨t,rfl⟩) av) aC))))))),?_⟩
  refine⟨_,rfl,n,rfl,n1,n12,_,rfl,_,rfl,ay hx,_,rfl,rfl,_,rfl,bG (λc=>?_) (λc=>?_)⟩
  ·have c:decide (V.int (x.length:Nat)=V.int (n:Nat))=true:=c
   rw[iW] at c
   have c:((x.length:Nat):Int)=(n:Nat):=by simpa using c
   exact⟨_,rfl,_,_,rfl,rfl,ay (show 3<=100 by decide),x,_,rfl,hx,λH' s'=>k _ H' (JR (by omega)) s'⟩
  ·have c:¬ decide (V.int (x.length:Nat)=V.int (n:Nat))=true:=c
   rw[iW] at c
   have c:¬ ((x.length:Nat):Int)=(n:Nat):=by simpa using c
   exact k false H ⟨(λh=>by cases h),(λh=>absurd h.len (by omega))⟩ (aB.refl H)
def qN:Sp:=λvs H Q _=>iL λ(x:Str) (n:Nat)=>vs=[.str x,.int n]/\x.length<=100/\1<=n/\n<=12/\dQ n x/\∀ H',aB H H'->Q .non H'
theorem IV:FnScope fV fV (aS mo):={}
theorem oq {f fi':Addr}{fd gi':FuncData}(D:Df K mg "check_pattern" mo fV f fd) (Di:Df K mg "is_pattern" ug fV fi' gi') (Gi:aG P w K mg base (aH P w) 2 fi' gi' fV AM):aG P w K mg base (aH P w) 4 f fd fV qN:=by
 refine D.F.okN IV (λvs H Q E h=>?_) (λcdv A outer s H vs Q E hr h=>?_)
 ·obtain⟨x,n,rfl,_⟩:=h
  rfl
 ·obtain⟨x,n,rfl,hx,n1,n12,hp,k⟩:=h
  refine⟨_,aL (bJ (eD (cm (aO Di Gi (hr.mono (by decide)) aJ (aA (pv 0) (aA (pv 1) aC))))) (aL hC) bO),?_⟩
  refine⟨_,rfl,_,rfl,x,n,rfl,hx,n1,n12,λb H' hb s'=>⟨_,rfl,?_⟩⟩
  rw[hb.mpr hp]
  exact aW (k H' s')
def ww (C:Addr):Sp:=λvs H Q _=>j7 λ(t dx kp bt:Addr) (n m:Nat) (rs:List Str) (x:Str)=>vs=[.ref t,.str x]/\TabAt C H t dx kp bt n m rs/\x.length<=100/\1<=n/\n<=12 /\
 (dQ n x)/\(∀ p H',H p=none->aB H H'->H' p=some (.lst ((mL rs x n).map V.str))->(mL rs x n).length<=4096->Q (.ref p) H')
abbrev Nmt:List Str:=["table", "pattern", "parts", "question"]
theorem uF:FnScope Nmt cX (aS qb):={}
abbrev Nmc:List Str:=["part", "sign", "question", "table"]
theorem C1:Nmc.Nodup:=by trivial
theorem Bd {f fg fp fo ff fw:Addr}{fd gg gp go gf gw:FuncData}(D:Df K mg "matching" qb cX f fd) (Dp:Df K mg "check_pattern" mo fV fp gp) (Gp:aG P w K mg base (aH P w) 4 fp gp fV qN) (Dg:Df K mg "gaps" lU cX fg gg) (Gg:aG P w K mg base (aH P w) 5 fg gg cX (oN C)) (Do:Df K mg "open_places" qX ["pattern"] fo go)
  (Df':Df K mg "fits" mi jS ff gf) (Gf:aG P w K mg base (aH P w) 4 ff gf jS (qK C)) (Dw:Df K mg "with_answer" oQ nV fw gw) (T:Tb K mg C fi fa ft fy fm fc gi ga gt gy gm gc) (M:Gm mg):aG P w K mg base (aH P w) 6 f fd cX (ww C):=by
 refine D.F.okN uF (λvs H Q E h=>?_) (λcdv A outer s H vs Q E hr h=>?_)
 ·obtain⟨t,dx,kp,bt,n,m,rs,x,rfl,_⟩:=h
  rfl
 ·obtain⟨t,dx,kp,bt,n,m,rs,x,rfl,tab,hx,n1,n12,hp,k2⟩:=h
  obtain⟨tk,mS⟩:=M.signs
  refine⟨_,aK (bd (aO Dp Gp (hr.mono (by decide)) aJ (aA (pv 1) (aA (dY (pv 0) rfl) aC))))
   ((aK (bJ (oY (aO Dg Gg hr aJ (aA (pv 0) (aA (pv 1) aC))) (λ_=>rfl)) (aL (aX (cT aC))) bO)
   (aK (aq (i:=2) uF.nd rfl (Or.inl rfl) (cT (aA (pv 1) aC)))
   (aK (dD d8 rfl (cK (aO Do (BW Do M) (hr.mono (by decide)) aJ (aA (pv 1) aC))) (aU (i:=3) uF.nd rfl (Or.inr rfl))
    (aL (J9 (i:=2) (N':=Nmc) (fm:=[none,none,some 3,some 0]) rfl uF.nd rfl rfl ⟨rfl,by trivial,by trivial,rfl,rfl,rfl⟩
     (cK (pv 2)) (λ_ _ _ _=>aU (i:=0) C1 rfl (Or.inl rfl)) (λ_ _ _ _=>cU)
     (λ_ _ _ _ _=>qx rfl (λ_ _ z=>z) (lY (kN (v:=.str "ny") (by rfl) mS ⟨tk,rfl⟩)) (aU (i:=1) C1 rfl (Or.inl rfl))
      (eV (cm (aO Df' Gf (hr.mono (by decide)) aJ (aA (pv 3) (aA (pv 0) (aA (pv 2) (aA (pv 1) aC)))))))
      (qy (λ_ _ z=>z) (aO Dw (xW Dw) (hr.mono (by decide)) aJ (aA (pv 0) (aA (pv 2) (aA (pv 1) aC)))))))))
   (aL (aX (pv 2))))))),?_⟩
  refine⟨_,rfl,_,rfl,t,C,dx,_,_,rfl,tab.ins,T.cl,T.nQ,rfl,x,n,rfl,hx,n1,n12,hp,λH1 s1'=>?_⟩
  refine⟨_,rfl,_,rfl,t,dx,kp,bt,n,m,rs,x,rfl,tab.mono s1',hp,n12,λpg H2 hpg a2=>?_⟩
  obtain⟨s2,as,e2,t2⟩:=a2
  have s02:=s1'.trans' s2
  cases z:fM rs 0 (bB x n) with
  | cons k0 kt =>
   rw[z] at t2
   have nm:mL rs x n=[]:=KO (by rw[z]; simp) (mB x n) vd
   cases as with
   | nil=>exact absurd t2.1 (by simp)
   | cons a0 at' =>
    refine⟨true,.inl ⟨_,aD.of e2,rfl⟩,ax ⟨bX _,λpe hpe=>?_⟩⟩
    refine k2 pe _ (ox s02 hpe) (s02.trans' (aB.new hpe)) ?_ (by rw[nm]; exact bX _)
    rw[nm]
    exact aF
  | nil =>
   rw[z] at t2
   have:as=[]:=mJ.mp t2.1
   subst this
   refine⟨false,.inl ⟨_,aD.of e2,rfl⟩,aW ?_⟩
   refine⟨_,rfl,ay (show 1<=100 by decide),λpl hpl=>?_⟩
   have sl:=aB.new (o:=.lst [.str x]) hpl
   refine⟨_,rfl,x,n,rfl,hp.len,n12,λpo H4 hpo s4 eo=>⟨po,rfl,⟨_,aD.of eo⟩,?_⟩⟩
   have s04:=s02.trans' (sl.trans' s4)
   refine jN (K:=K) (a:=po) (xs:=(dZ x n).map vN) (λj σ H5=>∃(v3:Option V) (pp:Addr) (ps:List Str),σ=[some (.ref t),some (.str x),some (.ref pp),v3]/\H pp=none/\aB H4 H5/\H5 pp=some (.lst (ps.map V.str))/\km rs n x ((dZ x n).take j) ps/\ps.length<=2 ^ j)
    ⟨none,pl,[x],rfl,ox s02 hpl,aB.refl _,s4 _ _ aF,km.start hp.len (L2.stands_of z),aY _⟩ (λj σ H5 _ ⟨_,_,_,_,_,s5,_⟩=>aD.of (s5 _ _ eo)) ?_ ?_
   ·rintro j y σ H5 hj ⟨v3,pp,ps,rfl,hpp,s5,e5,pt,pl2⟩
    rw[ar] at hj
    cases zj:(dZ x n)[j]? with
    | none=>rw[zj] at hj; cases hj
    | some q =>
     rw[zj] at hj
     cases hj
     obtain⟨hq,hxq⟩:=n0.mp (bI zj)
     have j12:j < 12:=by have:=(cE.mp zj).1; have:=vP x n; omega
     have tk:(dZ x n).take (j + 1)=(dZ x n).take j ++ [q]:=by rw[dA,zj]; rfl
     refine⟨_,rfl,pp,rfl,⟨_,aD.of e5⟩,λp2 hp2=>?_⟩
     refine vg (K:=K) (a:=pp) (xs:=ps.map V.str) (λi σ H6=>∃ v0 v1,σ=[v0,v1,some (vN q),some (.ref t)]/\aB H5 H6/\H6 p2=some (.lst (((ps.take i).flatMap (iT rs n q)).map V.str))) ⟨none,none,rfl,aB.new hp2,aF⟩ (λi σ H6 _ ⟨_,_,_,s6,_⟩=>aD.of (s6 _ _ e5)) ?_ ?_
     ·rintro i y σ H6 hi ⟨v0,v1,rfl,s6,e6⟩
      rw[ar] at hi
      cases zi:ps[i]? with
      | none=>rw[zi] at hi; cases hi
      | some part =>
       rw[zi] at hi
       cases hi
       have il:i < ps.length:=(cE.mp zi).1
       obtain⟨l1,l2,l3,l4⟩:=(pt.mem part).mp (bI zi)
       have hpart:dQ n part:=⟨l1,λi hi=>by
        by_cases w:i∈(dZ x n).take j
        ·have:=l2 i hi w; omega
        ·rw[l3 i hi w]; exact hp.sgn i hi⟩
       refine n8 ?_
       refine⟨_,rfl,?_⟩
       refine vf (x := "ny") (λc σ H7=>∃ v1,σ=[some (.str part),v1,some (vN q),some (.ref t)]/\aB H5 H7/\H7 p2=some (.lst (((ps.take i).flatMap (iT rs n q) ++ lr rs n part q c).map V.str))) ⟨_,rfl,s6,by rw[show lr rs n part q 0=[] from rfl,gX]; exact e6⟩ ?_ ?_
       ·rintro c σ H7 hc ⟨v1,rfl,s7,e7⟩
        have hc:c < 2:=by rw[show("ny" : Str).length=2 by trivial] at hc; exact hc
        have P1:lr rs n part q (0 + 1)=lr rs n part q 0 ++ gK rs n part q 110:=rfl
        have P2:lr rs n part q (1 + 1)=lr rs n part q 1 ++ gK rs n part q 121:=rfl
        have hc':c=0∨c=1:=by omega
        rcases hc' with rfl | rfl
        ·
         refine⟨_,rfl,_,rfl,_,rfl,_,rfl,t,dx,kp,bt,n,m,rs,part,q,110,rfl,tab.mono (s04.trans' (s5.trans' s7)),hpart,n12,hq,.inr rfl,λb H8 hb s8=>⟨_,rfl,?_⟩⟩
         cases b with
         | true =>
          refine ax ⟨_,rfl,_,rfl,_,rfl,part,n,q,110,rfl,l1,hq,by omega,_,s8 _ _ e7,?_,_,rfl,bW hp2 (s7.trans' s8),?_⟩
          ·have h1:=vo (rs:=rs) (n:=n) (q:=q) (ps.take i)
           have h2:=C8 rs n part q 0
           rw[cZ] at h1
           rw[aI,cR]
           have h3:=xP (show j<=12 by omega)
           exact cA (show _<=9000 by omega) (by decide)
          ·have ef:gK rs n part q 110=[tx n (cJ part q 110)]:=aP (hb.mp rfl)
           rw[aF,P1,ef,<- pU,bQ (l₂:=[tx n (cJ part q 110)])]
           rfl
         | false =>
          have ef:gK rs n part q 110=[]:=aN λw=>by have:=hb.mpr w; cases this
          refine aW ⟨_,rfl,s7.trans' s8,?_⟩
          rw[P1,ef,gX]
          exact s8 _ _ e7
        ·
         refine⟨_,rfl,_,rfl,_,rfl,_,rfl,t,dx,kp,bt,n,m,rs,part,q,121,rfl,tab.mono (s04.trans' (s5.trans' s7)),hpart,n12,hq,.inl rfl,λb H8 hb s8=>⟨_,rfl,?_⟩⟩
         cases b with
         | true =>
          refine ax ⟨_,rfl,_,rfl,_,rfl,part,n,q,121,rfl,l1,hq,by omega,_,s8 _ _ e7,?_,_,rfl,bW hp2 (s7.trans' s8),?_⟩
          ·have h1:=vo (rs:=rs) (n:=n) (q:=q) (ps.take i)
           have h2:=C8 rs n part q 1
           rw[cZ] at h1
           rw[aI,cR]
           have h3:=xP (show j<=12 by omega)
           exact cA (show _<=9000 by omega) (by decide)
          ·have ef:gK rs n part q 121=[tx n (cJ part q 121)]:=aP (hb.mp rfl)
           rw[aF,P2,ef,<- pU,bQ (l₂:=[tx n (cJ part q 121)])]
           rfl
         | false =>
          have ef:gK rs n part q 121=[]:=aN λw=>by have:=hb.mpr w; cases this
          refine aW ⟨_,rfl,s7.trans' s8,?_⟩
          rw[P2,ef,gX]
          exact s8 _ _ e7
       ·rintro σ H7 ⟨v1,rfl,s7,e7⟩
        refine⟨_,_,rfl,s7,?_⟩
        rw[dA,zi]
        show _=some (HO.lst (((ps.take i ++ [part]).flatMap (iT rs n q)).map V.str))
        rw[pS]
        have e:lr rs n part q ("ny" : Str).length=iT rs n q part:=by rw[show("ny" : Str).length=2 by trivial]; rfl
        rw[e] at e7
        simpa using e7
     ·rintro σ H6 ⟨v0,v1,rfl,s6,e6⟩
      rw[aI,cW] at e6
      refine⟨_,p2,ps.flatMap (iT rs n q),rfl,ox (s04.trans' s5) hp2,s5.trans' s6,e6,?_,?_⟩
      ·rw[tk]
       exact pt.step hq hxq (JS zj)
      ·have:=vo (rs:=rs) (n:=n) (q:=q) ps
       rw[Nat.pow_succ]
       omega
   ·rintro σ H5 ⟨v3,pp,ps,rfl,hpp,s5,e5,pt,pl2⟩
    rw[aI,cW] at pt
    have ed:ps=mL rs x n:=pt.done hp (λi hi=>⟨λh=>(n0.mp h).2,λh=>n0.mpr ⟨hi,h⟩⟩) (mB x n) vd
    rw[aI] at pl2
    rw[ed] at e5 pl2
    exact⟨_,rfl,k2 pp H5 hpp (s04.trans' s5) e5 (b8 pl2 (xP (by have:=vP x n; omega)))⟩
end
abbrev qi:Stmt:=ak 45
abbrev jg:Stmt:=ak 43
section
variable {P:Program}{w:World}{K:PySem.W.Frag}{mg:Str->Option Value}{base:Heap}{C fi fa ft fy fm fc:Addr}{gi ga gt gy gm gc:FuncData}
def x5 (C:Addr):Sp:=λvs H Q _=>j7 λ(t dx kp bt:Addr) (n m:Nat) (rs:List Str) (x:Str)=>vs=[.ref t,.str x]/\TabAt C H t dx kp bt n m rs/\Row n x/\1<=n/\n<=12/\∀ p H',H p=none->Acc H p H' (fM rs 0 (bB x n))->Q (.ref p) H'
abbrev dW:List Str:=["table", "row"]
theorem IE:FnScope dW dW (aS qi):={}
theorem jv {f fg fr:Addr}{fd gg gr:FuncData}(D:Df K mg "lacks" qi dW f fd) (Dg:Df K mg "gaps" lU cX fg gg) (Gg:aG P w K mg base (aH P w) 5 fg gg cX (oN C)) (Dr:Df K mg "check_row" mj fT fr gr) (Gr:aG P w K mg base (aH P w) 3 fr gr fT qM) (T:Tb K mg C fi fa ft fy fm fc gi ga gt gy gm gc):aG P w K mg base (aH P w) 6 f fd dW (x5 C):=by
 refine D.F.okN IE (λvs H Q E h=>?_) (λcdv A outer s H vs Q E hr h=>?_)
 ·obtain⟨t,dx,kp,bt,n,m,rs,x,rfl,_⟩:=h
  rfl
 ·obtain⟨t,dx,kp,bt,n,m,rs,x,rfl,tab,hx,n1,n12,k⟩:=h
  refine⟨_,aK (bd (aO Dr Gr (hr.mono (by decide)) aJ (aA (pv 1) (aA (dY (pv 0) rfl) aC))))
   (aL (aX (aO Dg Gg hr aJ (aA (pv 0) (aA (pv 1) aC))))),?_⟩
  refine⟨_,rfl,_,rfl,t,C,dx,_,_,rfl,tab.ins,T.cl,T.nQ,rfl,x,n,rfl,hx,n1,n12,λH1 s1'=>?_⟩
  refine⟨_,rfl,_,rfl,t,dx,kp,bt,n,m,rs,x,rfl,tab.mono s1',hx.pat,n12,λp H' hp a=>?_⟩
  refine k p H' ?_ (a.back s1')
  cases z:H p with
  | none=>rfl
  | some o=>rw[s1' _ _ z] at hp; cases hp
def lL (C:Addr):Sp:=λvs H Q _=>j7 λ(t dx kp bt:Addr) (n m:Nat) (rs:List Str) (x:Str)=>vs=[.ref t,.str x]/\TabAt C H t dx kp bt n m rs/\Row n x/\b6 rs n x/\1<=n/\n<=12/\∀ H',aB H H'->Q .non H'
theorem IR:FnScope dW dW (aS jg):={}
theorem lg {f fl:Addr}{fd gl:FuncData}(D:Df K mg "check_ruling" jg dW f fd) (Dl:Df K mg "lacks" qi dW fl gl) (Gl':aG P w K mg base (aH P w) 6 fl gl dW (x5 C)):aG P w K mg base (aH P w) 7 f fd dW (lL C):=by
 refine D.F.okN IR (λvs H Q E h=>?_) (λcdv A outer s H vs Q E hr h=>?_)
 ·obtain⟨t,dx,kp,bt,n,m,rs,x,rfl,_⟩:=h
  rfl
 ·obtain⟨t,dx,kp,bt,n,m,rs,x,rfl,tab,hx,hb,n1,n12,k⟩:=h
  refine⟨_,aL (bJ (oY (aO Dl Gl' hr aJ (aA (pv 0) (aA (pv 1) aC))) (λ_=>rfl)) (aL hC) bO),?_⟩
  refine⟨_,rfl,_,rfl,t,dx,kp,bt,n,m,rs,x,rfl,tab,hx,n1,n12,λp H' hp a=>?_⟩
  rw[xy hb] at a
  obtain⟨s',rs',e,t'⟩:=a
  have:rs'=[]:=mJ.mp t'.1
  subst this
  exact⟨false,.inl ⟨_,aD.of e,rfl⟩,aW (k H' s')⟩
abbrev uh:Stmt:=ak 38
abbrev vC:Stmt:=ak 40
abbrev vA:Stmt:=ak 39
abbrev mv:Stmt:=ak 35
abbrev oT:Stmt:=ak 37
def r8 (rs:List Str)(q:Nat):Nat->List Bool
 | 0=>[]
 | 1=>[decide (0 < aT rs q 110 q 110)]
 | _=>[decide (0 < aT rs q 110 q 110),decide (0 < aT rs q 121 q 121)]
theorem BQ (rs:List Str)(q c:Nat):(r8 rs q c).length<=2:=by
 match c with
 | 0=>exact bX _
 | 1=>exact(by decide:1<=2)
 | c + 2=>exact aY _
def AN (C:Addr):Sp:=λvs H Q _=>j7 λ(t dx kp bt:Addr) (n m:Nat) (rs:List Str) (q:Nat)=>vs=[.ref t,.int q]/\TabAt C H t dx kp bt n m rs/\q < n/\∀ H',aB H H'->Q (.bl (cV rs q)) H'
abbrev pK:List Str:=["table", "question"]
theorem II:FnScope pK pK (aS uh):={}
abbrev Nio:List Str:=["sign", "table", "question"]
theorem Kx:Nio.Nodup:=by trivial
theorem oj {f:Addr}{fd:FuncData}(D:Df K mg "is_open" uh pK f fd) (T:Tb K mg C fi fa ft fy fm fc gi ga gt gy gm gc) (Gc:aG P w K mg base (aH P w) 3 fc gc kC (lK C)) (B:Bt mg) (M:Gm mg):aG P w K mg base (aH P w) 4 f fd pK (AN C):=by
 refine D.F.okN II (λvs H Q E h=>?_) (λcdv A outer s H vs Q E hr h=>?_)
 ·obtain⟨t,dx,kp,bt,n,m,rs,q,rfl,_⟩:=h
  rfl
 ·obtain⟨t,dx,kp,bt,n,m,rs,q,rfl,tab,hq,k⟩:=h
  obtain⟨tk,mS⟩:=M.signs
  refine⟨_,aL (aX (bC (j5 rfl) (by rfl) B.all (by rfl) (aA (cS (N':=Nio) (fm:=[none,some 0,some 1]) rfl ⟨rfl,by trivial,by trivial,rfl,rfl,rfl⟩
    (lY (kN (v:=.str "ny") (by rfl) mS ⟨tk,rfl⟩)) (λ_ _ _ _=>aU (i:=0) Kx rfl (Or.inl rfl)) (λ_ _ _ _=>cU)
    (λ_ _ _ _=>eO n5 (iA (pv 1) T.cl T.mc Gc hr T.bc .nil aJ (aA (pv 2) (aA (pv 0) (aA (pv 2) (aA (pv 0) aC))))) aM (ao _))) aC))),?_⟩
  refine⟨_,rfl,λp hp=>?_⟩
  have pos:∀ a:Nat,decide ((0:Int) < (aT rs q a q a:Nat))=decide (0 < aT rs q a q a):=λa=>nH.mpr ⟨λh=>by omega,λh=>by omega⟩
  refine rb (x := "ny") (λc σ H2=>∃ v,σ=[v,some (.ref t),some (.int q)]/\aB H H2/\H2 p=some (.lst ((r8 rs q c).map V.bl))) ⟨none,rfl,aB.new hp,aF⟩ ?_ ?_
  ·rintro c σ H2 hc ⟨v,rfl,s2,e2⟩
   have hc:c < 2:=by rw[show("ny" : Str).length=2 by trivial] at hc; exact hc
   have hc':c=0∨c=1:=by omega
   have tab2:=tab.mono s2
   rcases hc' with rfl | rfl
   ·refine eN ⟨_,rfl,t,dx,_,rfl,tab2.ins,rfl,_,rfl,_,rfl,_,rfl,_,rfl,t,dx,kp,bt,n,m,rs,q,110,q,110,rfl,tab2,hq,hq,.inr rfl,.inr rfl,λH6 s6=>?_⟩
    refine⟨_,_,rfl,rfl,_,s6 _ _ e2,(by rw[aI]; exact cA (BQ rs q _) (by decide)),_,rfl,bW hp (s2.trans' s6),?_⟩
    rw[aF]
    show some (HO.lst ([] ++ [V.bl (decide ((0:Int) < (aT rs q 110 q 110:Nat)))]))=_
    rw[pos]
    rfl
   ·refine eN ⟨_,rfl,t,dx,_,rfl,tab2.ins,rfl,_,rfl,_,rfl,_,rfl,_,rfl,t,dx,kp,bt,n,m,rs,q,121,q,121,rfl,tab2,hq,hq,.inl rfl,.inl rfl,λH6 s6=>?_⟩
    refine⟨_,_,rfl,rfl,_,s6 _ _ e2,(by rw[aI]; exact cA (BQ rs q _) (by decide)),_,rfl,bW hp (s2.trans' s6),?_⟩
    rw[aF]
    show some (HO.lst (_ ++ [V.bl (decide ((0:Int) < (aT rs q 121 q 121:Nat)))]))=_
    rw[pos]
    rfl
  ·rintro σ H2 ⟨v,rfl,s2,e2⟩
   have e:r8 rs q ("ny" : Str).length=r8 rs q 2:=by rw[show("ny" : Str).length=2 by trivial]
   rw[e] at e2
   refine⟨p,_,rfl,aD.of e2,?_⟩
   have e3:(r8 rs q 2).all id=cV rs q:=by
    show(decide (0 < aT rs q 110 q 110) && (decide (0 < aT rs q 121 q 121) && true))=_
    rw[mO]
    rfl
   rw[e3]
   exact k H2 s2
def AZ (C:Addr):Sp:=λvs H Q _=>gY λ(t dx kp bt:Addr) (n m:Nat) (rs:List Str) (q r:Nat)=>vs=[.ref t,.int q,.int r]/\TabAt C H t dx kp bt n m rs/\q < n/\r < n/\∀ H',aB H H'->Q (aV (dj rs q r)) H'
abbrev pO:List Str:=["table", "q", "r"]
theorem Ie:FnScope pO pO (aS vC):={}
theorem ow {f:Addr}{fd:FuncData}(D:Df K mg "answer_along" vC pO f fd) (T:Tb K mg C fi fa ft fy fm fc gi ga gt gy gm gc) (Gc:aG P w K mg base (aH P w) 3 fc gc kC (lK C)):aG P w K mg base (aH P w) 4 f fd pO (AZ C):=by
 refine D.F.okN Ie (λvs H Q E h=>?_) (λcdv A outer s H vs Q E hr h=>?_)
 ·obtain⟨t,dx,kp,bt,n,m,rs,q,r,rfl,_⟩:=h
  rfl
 ·obtain⟨t,dx,kp,bt,n,m,rs,q,r,rfl,tab,hq,hr',k⟩:=h
  refine⟨_,aK (vG (λσ H1=>σ=[some (.ref t),some (.int q),some (.int r)]/\aB H H1/\cq rs q r=false) (bJ (dw (i9 (aw cF (iA (pv 0) T.cl T.mc Gc hr T.bc .nil aJ (aA (pv 1) (aA av (aA (pv 2) (aA av aC))))) aM (ao _)) (iP (aw cF (iA (pv 0) T.cl T.mc Gc hr T.bc .nil aJ (aA (pv 1) (aA av (aA (pv 2) (aA av aC))))) aM (ao _))))) (aL (aX av)) bO))
   (aK (bJ (dw (i9 (aw cF (iA (pv 0) T.cl T.mc Gc hr T.bc .nil aJ (aA (pv 1) (aA av (aA (pv 2) (aA av aC))))) aM (ao _)) (iP (aw cF (iA (pv 0) T.cl T.mc Gc hr T.bc .nil aJ (aA (pv 1) (aA av (aA (pv 2) (aA av aC))))) aM (ao _))))) (aL (aX av)) bO)
   (aL (aX xR))),?_⟩
  have dz:∀ c:Nat,decide (V.int (c:Nat)=V.int 0)=decide (c=0):=λc=>by
   refine nH.mpr ⟨λh=>?_,λh=>by rw[h]; rfl⟩
   injection h with h
   omega
  refine⟨?_,?_⟩
  ·refine⟨_,rfl,t,dx,_,rfl,tab.ins,rfl,_,rfl,_,rfl,t,dx,kp,bt,n,m,rs,q,110,r,121,rfl,tab,hq,hr',.inr rfl,.inl rfl,λH1 s1'=>⟨rfl,_,rfl,?_⟩⟩
   rw[dz]
   cases c1:decide (aT rs q 110 r 121=0) with
   | false=>exact aW (aW ⟨rfl,s1',by unfold cq; rw[c1,wZ]⟩)
   | true =>
    have tab1:=tab.mono s1'
    refine ax ⟨_,rfl,t,dx,_,rfl,tab1.ins,rfl,_,rfl,_,rfl,t,dx,kp,bt,n,m,rs,q,121,r,110,rfl,tab1,hq,hr',.inl rfl,.inr rfl,λH2 s2=>⟨rfl,_,rfl,?_⟩⟩
    rw[dz]
    cases c2:decide (aT rs q 121 r 110=0) with
    | false=>exact aW ⟨rfl,s1'.trans' s2,by unfold cq; rw[c1,c2]; rfl⟩
    | true =>
     have e:dj rs q r=some 121:=by unfold dj cq; rw[c1,c2]; rfl
     rw[e] at k
     exact ax (k H2 (s1'.trans' s2))
  ·rintro σ H1 ⟨rfl,s1',nk⟩
   have tab1:=tab.mono s1'
   refine⟨_,rfl,t,dx,_,rfl,tab1.ins,rfl,_,rfl,_,rfl,t,dx,kp,bt,n,m,rs,q,110,r,110,rfl,tab1,hq,hr',.inr rfl,.inr rfl,λH2 s2=>⟨rfl,_,rfl,?_⟩⟩
   have s12:=s1'.trans' s2
   have none_:cz rs q r=false->dj rs q r=none:=λh=>by unfold dj; rw[nk,h]; rfl
   rw[dz]
   cases c1:decide (aT rs q 110 r 110=0) with
   | false =>
    rw[none_ (by unfold cz; rw[c1,wZ])] at k
    exact aW (aW (k H2 s12))
   | true =>
    have tab2:=tab.mono s12
    refine ax ⟨_,rfl,t,dx,_,rfl,tab2.ins,rfl,_,rfl,_,rfl,t,dx,kp,bt,n,m,rs,q,121,r,121,rfl,tab2,hq,hr',.inl rfl,.inl rfl,λH3 s3=>⟨rfl,_,rfl,?_⟩⟩
    rw[dz]
    cases c2:decide (aT rs q 121 r 121=0) with
    | false =>
     rw[none_ (by unfold cz; rw[c1,c2]; rfl)] at k
     exact aW (k H3 (s12.trans' s3))
    | true =>
     have e:dj rs q r=some 110:=by unfold dj cz; rw[nk,c1,c2]; rfl
     rw[e] at k
     exact ax (k H3 (s12.trans' s3))
def AW (C:Addr):Sp:=λvs H Q _=>j7 λ(t dx kp bt:Addr) (n m:Nat) (rs:List Str) (l:Nat)=>vs=[.ref t,.int l]/\TabAt C H t dx kp bt n m rs/\(∀ x∈rs,Row n x)/\l < n/\n<=12/\dh rs l=true/\∀ p H',H p=none->Acc H p H' ((bq rs n l).map au)->Q (.ref p) H'
abbrev Nbf:List Str:=["table", "lowest", "told", "question", "answer"]
abbrev sL:List Str:=["table", "lowest"]
theorem uL:FnScope Nbf sL (aS vA):={}
def rc (rs:List Str)(l j:Nat):List (Nat×Nat):=(List.range j).filterMap λd=>cg rs l (l + d)
theorem NP (rs:List Str)(l j:Nat):(rc rs l j).length<=j:=by
 have:=List.length_filterMap_le (λd=>cg rs l (l + d)) (List.range j)
 rw[dk] at this
 exact this
theorem EG (rs:List Str)(l j:Nat):rc rs l (j + 1)=rc rs l j ++ (cg rs l (l + j)).toList:=by
 unfold rc
 rw[mH,List.filterMap_append]
 congr 1
theorem ou {f fg:Addr}{fd gg:FuncData}(D:Df K mg "bundle_from" vA sL f fd) (Dg:Df K mg "answer_along" vC pO fg gg) (Gg:aG P w K mg base (aH P w) 4 fg gg pO (AZ C)) (T:Tb K mg C fi fa ft fy fm fc gi ga gt gy gm gc) (B:Bt mg):aG P w K mg base (aH P w) 5 f fd sL (AW C):=by
 refine D.F.okN uL (λvs H Q E h=>?_) (λcdv A outer s H vs Q E hr h=>?_)
 ·obtain⟨t,dx,kp,bt,n,m,rs,l,rfl,_⟩:=h
  rfl
 ·obtain⟨t,dx,kp,bt,n,m,rs,l,rfl,tab,hrs,hl,n12,ll,k⟩:=h
  refine⟨_,aK (aq (i:=2) uL.nd rfl (Or.inl rfl) (cT aC))
   (aK (dD d8 rfl (xQ (by rfl) B.range (aA (pv 1) (aA (dY (pv 0) rfl) aC))) (aU (i:=3) uL.nd rfl (Or.inl rfl))
    (aK (aq (i:=4) uL.nd rfl (Or.inl rfl) (aO Dg Gg hr aJ (aA (pv 0) (aA (pv 1) (aA (pv 3) aC)))))
    (aL (bJ (vF (JP (pv 4))) (aL (bd (hG mD nU nS jL (pv 2) (aA (dO (aA (pv 3) (aA (pv 4) aC))) aC)))) bO))))
   (aL (aX (pv 2)))),?_⟩
  refine⟨bX _,λp hp=>?_⟩
  have tab0:=tab.mono (aB.new (o:=.lst []) hp)
  refine⟨_,rfl,_,rfl,t,C,dx,_,_,rfl,tab0.ins,T.cl,T.nQ,rfl,_,_,rfl,⟨by omega,by omega,by omega,by omega⟩,?_⟩
  have en:(((n:Nat):Int) - (l:Int)).toNat=n - l:=by omega
  rw[en]
  refine jy (λj σ H2=>∃ v3 v4,σ=[some (.ref t),some (.int l),some (.ref p),v3,v4]/\Acc H p H2 ((rc rs l j).map au)) ⟨none,none,rfl,aB.new hp,[],aF,.nil⟩ ?_ ?_
  ·rintro j σ H2 hj ⟨v3,v4,rfl,a2⟩
   have ej:(l:Int) + (j:Int)=((l + j:Nat):Int):=by omega
   rw[ej]
   refine⟨_,rfl,_,rfl,_,rfl,t,dx,kp,bt,n,m,rs,l,l + j,rfl,tab.mono a2.same,hl,by omega,λH3 s3=>?_⟩
   have a3:=a2.mono s3
   cases z:dj rs l (l + j) with
   | none =>
    have e:cg rs l (l + j)=none:=by unfold cg; rw[z]; rfl
    refine⟨_,rfl,_,rfl,aW ⟨_,_,rfl,?_⟩⟩
    rw[EG,e]
    simpa using a3
   | some a =>
    have e:cg rs l (l + j)=some (l + j,a):=by unfold cg; rw[z]; rfl
    obtain⟨rs',e3,t3⟩:=a3.at_
    refine⟨_,rfl,_,rfl,ax ⟨_,rfl,.inl ⟨rfl,_,aD.of e3⟩,_,rfl,_,rfl,ay (show 2<=100 by decide),λT' hT=>?_⟩⟩
    obtain⟨ys,ey,yl,a4⟩:=a3.put (k:=au (l + j,a)) hp (aB.refl _) hT
    refine⟨p,_,_,rfl,rfl,ey,?_,_,_,rfl,?_⟩
    ·rw[yl,aI]
     have:=NP rs l j
     exact cA (show _<=12 by omega) (by decide)
    ·rw[EG,e,bQ]
     exact a4
  ·rintro σ H2 ⟨v3,v4,rfl,a2⟩
   refine⟨_,rfl,k p H2 hp ?_⟩
   rw[E6 hrs hl ll]
   exact a2
def u0 (C:Addr):Sp:=λvs H Q _=>o6 λ(t dx kp bt:Addr) (n m:Nat) (rs:List Str)=>vs=[.ref t]/\TabAt C H t dx kp bt n m rs/\(∀ x∈rs,Row n x)/\1<=n/\n<=12/\∀ p H',fF H p H' (cD rs n)->Q (.ref p) H'
abbrev Nbu:List Str:=["table", "told", "placed", "question", "bundle"]
theorem qS:FnScope Nbu ["table"] (aS mv):={}
def qz (p:Nat×Nat):aQ×V:=(.inl (p.1:Int),s1 p.2)
theorem Fb {H:Hp}{as:List Addr}{ks:List (Nat×Nat)}(t:cH H as (ks.map au)):yj H as (ks.map qz):=by
 refine⟨by rw[aI,t.1,aI],λi r p h1 h2=>?_⟩
 rw[ar] at h2
 cases z:ks[i]? with
 | none=>rw[z] at h2; cases h2
 | some q =>
  rw[z] at h2
  cases h2
  exact t.2 i r (au q) h1 (by rw[ar,z]; rfl)
theorem LW {r:Nat}{rs:List Str}{n l:Nat}:((.inl (r:Int)):aQ)∈(((bq rs n l).map qz).map (·.1))↔r < n/\bA rs l r=true:=by
 constructor
 ·intro h
  rw[gR] at h
  obtain⟨p,hp,e⟩:=cI.mp h
  have e:(p.1:Int)=(r:Int):=by
   have e:(Sum.inl (p.1:Int):aQ)=.inl (r:Int):=e
   injection e
  have e:p.1=r:=by omega
  obtain⟨a,b⟩:=nJ (r:=p.1) (a:=p.2) hp
  rw[e] at a b
  refine⟨a,?_⟩
  cases z:bA rs l r with
  | true=>rfl
  | false=>rw[m9.mpr z] at b; cases b
 ·rintro⟨a,b⟩
  cases z:dj rs l r with
  | none=>rw[m9.mp z] at b; cases b
  | some c =>
   rw[gR]
   exact cI.mpr ⟨(r,c),xn a z,rfl⟩
theorem ot {f fo fg:Addr}{fd go gg:FuncData}(D:Df K mg "bundles" mv ["table"] f fd) (Do:Df K mg "is_open" uh pK fo go) (Go:aG P w K mg base (aH P w) 4 fo go pK (AN C)) (Dg:Df K mg "bundle_from" vA sL fg gg) (Gg:aG P w K mg base (aH P w) 5 fg gg sL (AW C)) (T:Tb K mg C fi fa ft fy fm fc gi ga gt gy gm gc) (B:Bt mg) (M:Gm mg):aG P w K mg base (aH P w) 6 f fd ["table"] (u0 C):=by
 refine D.F.okN qS (λvs H Q E h=>?_) (λcdv A outer s H vs Q E hr h=>?_)
 ·obtain⟨t,dx,kp,bt,n,m,rs,rfl,_⟩:=h
  rfl
 ·obtain⟨t,dx,kp,bt,n,m,rs,rfl,tab,hrs,n1,n12,k⟩:=h
  have hu:(A.deeper (envOfC "bundles" (aS mv) s.heap.objs.size f cdv)).units + 1 < cLine:=by have:=hr.units; omega
  refine⟨_,aK (aq (i:=1) qS.nd rfl (Or.inl rfl) (cT aC))
   (aK (aq (i:=2) qS.nd rfl (Or.inl rfl) BB)
   (aK (dD d8 rfl (gH (by rfl) B.range (aA (dY (pv 0) rfl) aC)) (aU (i:=3) qS.nd rfl (Or.inl rfl))
    (aL (bJ (dw (i9 (vF (xT hu (pv 3) (pv 2))) (iP (cm (aO Do Go (hr.mono (by decide)) aJ (aA (pv 0) (aA (pv 3) aC)))))))
     (aK (aq (i:=4) qS.nd rfl (Or.inl rfl) (aO Dg Gg hr aJ (aA (pv 0) (aA (pv 3) aC))))
     (aK (bd (hG mD nU nS jL (pv 1) (aA (pv 4) aC)))
     (aL (bd (hG PySem.F.plainAttrs_dict PySem.F.slot_dict_update PySem.F.type_dict_update L5 (pv 2) (aA (vL (NF rfl) (by rfl) M.dict (by rfl) (aA (pv 4) aC)) aC)))))) bO)))
   (aL (aX (pv 1))))),?_⟩
  refine⟨bX _,λp hp=>λpd hpd=>?_⟩
  have s1':=aB.new (o:=.lst []) hp
  have s2:=aB.new (o:=.dK []) hpd
  have tab0:=tab.mono (s1'.trans' s2)
  refine⟨_,rfl,t,C,dx,_,_,rfl,tab0.ins,T.cl,T.nQ,rfl,_,rfl,by omega,by omega,?_⟩
  have en:((n:Nat):Int).toNat=n:=by omega
  rw[en]
  refine jy (λi σ H2=>∃ v3 v4 kvs,σ=[some (.ref t),some (.ref p),some (.ref pd),v3,v4]/\fF H p H2 ((aR rs i).map (bq rs n))/\H2 pd=some (.dK kvs)/\kvs.length<=12 * i/\∀ r,r < n->(((.inl (r:Int)):aQ)∈kvs.map (·.1)↔∃ l,l < i/\dh rs l=true/\bA rs l r=true))
   ⟨none,none,[],rfl,⟨s1'.trans' s2,hp,[],s2 _ _ aF,rfl,(λ_ h=>by cases h),λ_ _ _ h=>by cases h⟩,aF,bX _,λr _=>⟨λh=>(by cases h),λ⟨l,h,_⟩=>by omega⟩⟩ ?_ ?_
  ·rintro i σ H2 hi ⟨v3,v4,kvs,rfl,b2,e2,l2,pl⟩
   rw[j6]
   have pd0:H pd=none:=n6 hpd
   have stay:∀{H3:Hp} {v4:Option V},aB H2 H3->dh rs i=false->∃ v3 v4' kvs,[some (V.ref t),some (V.ref p),some (V.ref pd),some (V.int i),v4]=[some (.ref t),some (.ref p),some (.ref pd),v3,v4']/\fF H p H3 ((aR rs (i + 1)).map (bq rs n))/\H3 pd=some (.dK kvs)/\kvs.length<=12 * (i + 1)/\∀ r,r < n->(((.inl (r:Int)):aQ)∈kvs.map (·.1)↔∃ l,l < i + 1/\dh rs l=true/\bA rs l r=true):=by
    intro H3 v4 s3 nl
    refine⟨_,_,kvs,rfl,?_,s3 _ _ e2,by omega,λr hr=>?_⟩
    ·rw[vh,nl]
     simpa using b2.mono s3
    ·rw[pl r hr]
     constructor
     ·rintro⟨l,a,b⟩
      exact⟨l,by omega,b⟩
     ·rintro⟨l,a,b,c⟩
      refine⟨l,Nat.lt_of_le_of_ne (by omega) (λe=>?_),b,c⟩
      rw[e,nl] at b
      cases b
   refine⟨_,rfl,_,rfl,pd,_,rfl,fE.k (k:=.inl (i:Int)) e2,_,rfl,?_⟩
   cases z:(b9 kvs (.inl (i:Int))).isSome with
   | true =>
    refine aW (aW (stay (aB.refl _) (pc.mpr λw=>?_)))
    exact((CI hrs hi).mp w).2 ((pl i hi).mp (qB.mp z))
   | false =>
    refine ax ⟨_,rfl,_,rfl,t,dx,kp,bt,n,m,rs,i,rfl,tab.mono b2.same,hi,λH3 s3=>⟨_,rfl,?_⟩⟩
    cases o:cV rs i with
    | false=>exact aW (stay s3 (by unfold dh; rw[o,wZ]))
    | true =>
     have ll:dh rs i=true:=(CI hrs hi).mpr ⟨o,λw=>by
      have:=qB.mpr ((pl i hi).mpr w)
      rw[z] at this
      cases this⟩
     have b3:=b2.mono s3
     refine ax ⟨_,rfl,_,rfl,t,dx,kp,bt,n,m,rs,i,rfl,tab.mono b3.same,hrs,hi,n12,ll,λb H4 hb a4=>?_⟩
     obtain⟨bs,e4,lb,b5⟩:=b3.put hb a4
     refine⟨_,rfl,.inl ⟨rfl,_,aD.of e4⟩,_,rfl,p,_,_,rfl,rfl,e4,?_,?_⟩
     ·rw[aI,lb,aI]
      have:=iU rs i
      exact cA (show _<=12 by omega) (by decide)
     obtain⟨as,ea,ta⟩:=a4.at_
     have bp:b≠p:=λw=>by
      obtain⟨bs',e',_⟩:=b3.at_
      rw[w,e'] at hb
      cases hb
     have pdp:pd≠p:=λw=>by
      obtain⟨bs',e',_⟩:=b2.at_
      rw[<- w,e2] at e'
      cases e'
     have ed:upd H4 p (.lst (bs.map V.ref ++ [.ref b])) pd=some (.dK kvs):=by rw[aj pdp]; exact a4.same _ _ (s3 _ _ e2)
     have eb:upd H4 p (.lst (bs.map V.ref ++ [.ref b])) b=some (.lst (as.map V.ref)):=by rw[aj bp]; exact ea
     have ts:=Fb (ta.upd (zs:=bs.map V.ref ++ [.ref b]) e4)
     generalize upd H4 p (.lst (bs.map V.ref ++ [.ref b]))=H5 at *
     refine⟨_,rfl,.inr (.inr (.inl ⟨rfl,.inl ⟨_,ed⟩⟩)),_,rfl,b,as,_,rfl,aD.of eb,ts,λdc hdc=>?_⟩
     have sd:=aB.new (o:=.dK (ir [] ((bq rs n i).map qz))) hdc
     have m0:=rC ((bq rs n i).map qz) []
     have m1:=rC (ir [] ((bq rs n i).map qz)) kvs
     have m2:=yS rs n i
     rw[aI] at m0
     have nd:pd≠dc:=λw=>by rw[<- w,ed] at hdc; cases hdc
     refine⟨pd,dc,_,_,rfl,rfl,sd _ _ ed,aF,nd,b8 (show _<=1000 by simp at m0; omega) (by decide),?_⟩
     refine⟨_,_,_,rfl,?_,aF,by simp at m0; omega,λr hr=>?_⟩
     ·rw[vh,ll,aP rfl,bQ]
      exact(b5.mono sd).offD pd0 (sd _ _ ed)
     ·rw[xm,xm,pl r hr,LW]
      constructor
      ·rintro(⟨l,a,b⟩ | a | ⟨_,a⟩)
       ·exact⟨l,by omega,b⟩
       ·cases a
       ·exact⟨i,nu _,ll,a⟩
      ·rintro⟨l,a,b,c⟩
       by_cases e:l=i
       ·rw[e] at c
        exact .inr (.inr ⟨hr,c⟩)
       ·exact .inl ⟨l,by omega,b,c⟩
  ·rintro σ H2 ⟨v3,v4,kvs,rfl,b2,_⟩
   exact⟨_,rfl,k p H2 b2⟩
def tu (C:Addr):Sp:=λvs H Q _=>o6 λ(t dx kp bt:Addr) (n m:Nat) (rs:List Str)=>vs=[.ref t]/\TabAt C H t dx kp bt n m rs/\(∀ x∈rs,Row n x)/\1<=n/\n<=12/\∀ p H',H p=none->aB H H'->H' p=some (.lst ((aR rs n).map iN))->Q (.ref p) H'
theorem IC:FnScope ["table"] ["table"] (aS oT):={}
theorem Kn:(["bundle"]:List Str).Nodup:=by trivial
theorem xZ {f fg:Addr}{fd gg:FuncData}(D:Df K mg "lowest_questions" oT ["table"] f fd) (Dg:Df K mg "bundles" mv ["table"] fg gg) (Gg:aG P w K mg base (aH P w) 6 fg gg ["table"] (u0 C)):aG P w K mg base (aH P w) 7 f fd ["table"] (tu C):=by
 refine D.F.okN IC (λvs H Q E h=>?_) (λcdv A outer s H vs Q E hr h=>?_)
 ·obtain⟨t,dx,kp,bt,n,m,rs,rfl,_⟩:=h
  rfl
 ·obtain⟨t,dx,kp,bt,n,m,rs,rfl,tab,hrs,n1,n12,k⟩:=h
  refine⟨_,aL (aX (cS (N':=["bundle"]) (fm:=[none]) rfl ⟨rfl,by trivial,by trivial,rfl,rfl,rfl⟩
   (cK (aO Dg Gg hr aJ (aA (pv 0) aC))) (λ_ _ _ _=>aU (i:=0) Kn rfl (Or.inl rfl)) (λ_ _ _ _=>cU)
   (λ_ _ _ _=>af (r:=qu K) iV (af (r:=jh K) bN (pv 0) aM (λ_ _=>rfl)) aM (λ_ _=>rfl)))),?_⟩
  refine⟨_,rfl,t,dx,kp,bt,n,m,rs,rfl,tab,hrs,n1,n12,λq H1 b1=>?_⟩
  obtain⟨bs,e1,l1,f1,g1⟩:=b1.at_
  refine⟨q,rfl,⟨_,aD.of e1⟩,λp hp=>?_⟩
  have lb:bs.length=(aR rs n).length:=by rw[l1]; unfold cD; rw[aI]
  refine eI (K:=K) (a:=q) (xs:=bs.map V.ref) (λi σ H2=>∃ v,σ=[v]/\aB H1 H2/\H2 p=some (.lst (((aR rs n).take i).map iN))) ⟨none,rfl,aB.new hp,aF⟩ (λi σ H2 _ ⟨_,_,s2,_⟩=>aD.of (s2 _ _ e1)) ?_ ?_
  ·rintro i y σ H2 hi ⟨v,rfl,s2,e2⟩
   rw[ar] at hi
   cases z:bs[i]? with
   | none=>rw[z] at hi; cases hi
   | some b =>
    rw[z] at hi
    cases hi
    have il:=(cE.mp z).1
    have y:(aR rs n)[i]? = some (aR rs n)[i]:=bZ (by omega)
    have mem:=bI y
    generalize (aR rs n)[i]=l at *
    unfold aR at mem
    rw[cY,bK] at mem
    obtain⟨tl,et⟩:=yT hrs mem.1 mem.2
    obtain⟨as,ea,ta⟩:=g1 i b (bq rs n l) z (by unfold cD; rw[ar,y]; rfl)
    rw[et] at ta
    cases as with
    | nil=>exact absurd ta.1 (by simp)
    | cons a0 at' =>
     have ea0:=ta.2 0 a0 _ rfl rfl
     refine eN ⟨_,rfl,b,_,_,_,rfl,rfl,aD.of (s2 _ _ ea),(show cL _ ((0:Nat):Int)=_ from dv rfl),a0,_,_,_,rfl,rfl,bT.of (s2 _ _ ea0),rfl,_,e2,?_,_,rfl,bW hp s2,?_⟩
     ·rw[aI,cZ]
      have:=iU rs n
      exact cA (show _<=12 by omega) (by decide)
     ·rw[aF,dA,y,bQ]
      rfl
  ·rintro σ H2 ⟨v,rfl,s2,e2⟩
   rw[aI,lb,cW] at e2
   refine k p H2 ?_ (b1.same.trans' s2) e2
   cases z:H p with
   | none=>rfl
   | some o=>rw[b1.same _ _ z] at hp; cases hp
abbrev uQ:Stmt:=ak 57
theorem DH (rs:List Str)(n:Nat)(x y:Str):dfc rs n x y<=n:=b8 yw (iU rs n)
def A3 (C:Addr):Sp:=λvs H Q _=>gY λ(t dx kp bt:Addr) (n m:Nat) (rs:List Str) (x y:Str)=>vs=[.ref t,.str x,.str y]/\TabAt C H t dx kp bt n m rs/\(∀ x∈rs,Row n x)/\Row n x/\b6 rs n x/\Row n y/\b6 rs n y/\1<=n/\n<=12/\∀ H',aB H H'->Q (.int (dfc rs n x y:Nat)) H'
abbrev O4:List Str:=["table", "one", "other"]
abbrev sP:List Str:=["table", "one", "other"]
theorem Hs:FnScope O4 sP (aS uQ):={}
abbrev EU:List Str:=["question", "one", "other"]
theorem Kc:EU.Nodup:=by trivial
theorem Jh {f fk fl:Addr}{fd gk gl:FuncData}(D:Df K mg "steps" uQ sP f fd) (Dc:Df K mg "check_ruling" jg dW fk gk) (Gc:aG P w K mg base (aH P w) 7 fk gk dW (lL C)) (Dq:Df K mg "lowest_questions" oT ["table"] fl gl) (Gq:aG P w K mg base (aH P w) 7 fl gl ["table"] (tu C)) (B:Bt mg):aG P w K mg base (aH P w) 8 f fd sP (A3 C):=by
 refine D.F.okN Hs (λvs H Q E h=>?_) (λcdv A outer s H vs Q E hr h=>?_)
 ·obtain⟨t,dx,kp,bt,n,m,rs,x,y,rfl,_⟩:=h
  rfl
 ·obtain⟨t,dx,kp,bt,n,m,rs,x,y,rfl,tab,hrs,hx,bx,hy,bY,n1,n12,k⟩:=h
  refine⟨_,aK (bd (aO Dc Gc (hr.mono (by decide)) aJ (aA (pv 0) (aA (pv 1) aC))))
   (aK (bd (aO Dc Gc (hr.mono (by decide)) aJ (aA (pv 0) (aA (pv 2) aC))))
   (aL (aX (bC fO (by rfl) B.len d7 (aA (cS (N':=EU) (fm:=[none,some 1,some 2]) rfl ⟨rfl,by trivial,by trivial,rfl,rfl,rfl⟩ (cK (aO Dq Gq (hr.mono (by decide)) aJ (aA (pv 0) aC))) (λ_ _ _ _=>(aU (i:=0) Kc rfl (Or.inl rfl))) (λ_ _ _ _=>(eV (aw jt (af dS (pv 1) (pv 0) (λ_ _=>rfl)) (af dS (pv 2) (pv 0) (λ_ _=>rfl)) (ao _)))) (λ_ _ _ _=>(pv 0))) aC))))),?_⟩
  refine⟨_,rfl,_,rfl,t,dx,kp,bt,n,m,rs,x,rfl,tab,hx,bx,n1,n12,λH1 s1'=>?_⟩
  refine⟨_,rfl,_,rfl,t,dx,kp,bt,n,m,rs,y,rfl,tab.mono s1',hy,bY,n1,n12,λH2 s2=>?_⟩
  have s02:=s1'.trans' s2
  refine⟨_,rfl,t,dx,kp,bt,n,m,rs,rfl,tab.mono s02,hrs,n1,n12,λlq H3 hlq s3 e3=>?_⟩
  have s03:=s02.trans' s3
  refine⟨lq,rfl,⟨_,aD.of e3⟩,λp hp=>?_⟩
  have L12:(aR rs n).length<=12:=b8 (iU rs n) n12
  refine eI (K:=K) (a:=lq) (xs:=(aR rs n).map iN) (λi σ H2=>∃ v zs,σ=[v,some (.str x),some (.str y)]/\aB H3 H2/\H2 p=some (.lst zs)/\zs.length=((aR rs n).take i).countP (bS x y)) ⟨none,[],rfl,aB.new hp,aF,rfl⟩ (λi σ H2 _ ⟨_,_,_,s2,_⟩=>aD.of (s2 _ _ e3)) ?_ ?_
  ·rintro i v' σ H2 hi ⟨v,zs,rfl,s2,e2,l2⟩
   rw[ar] at hi
   cases z:(aR rs n)[i]? with
   | none=>rw[z] at hi; cases hi
   | some lo =>
    rw[z] at hi
    cases hi
    have il:=(cE.mp z).1
    have mem:=bI z
    unfold aR at mem
    rw[cY,bK] at mem
    have sx:x.length<=sizeLine:=by rw[hx.len]; exact ay (by omega)
    have sy:y.length<=sizeLine:=by rw[hy.len]; exact ay (by omega)
    have sn:((aR rs n).take (i + 1)).countP (bS x y)=((aR rs n).take i).countP (bS x y) + (bS x y lo).toNat:=by
     rw[dA,z,List.countP_append]
     congr 1
    have c12:zs.length<=12:=by
     rw[l2]
     refine b8 yw ?_
     rw[cZ]
     omega
    refine⟨_,rfl,_,rfl,_,_,_,rfl,rfl,sx,iz hx mem.1,_,rfl,_,rfl,_,_,_,rfl,rfl,sy,iz hy mem.1,rfl,_,rfl,bG (λc=>?_) (λc=>?_)⟩
    ·have c:(!decide (s1 (ch x lo)=s1 (ch y lo)))=true:=c
     rw[eP] at c
     have c:¬ ch x lo=ch y lo:=by simpa using c
     refine⟨_,rfl,zs,e2,cA c12 (by decide),_,_,rfl,bW hp s2,aF,?_⟩
     rw[cR,l2,sn]
     unfold bS
     rw[bR c]
     rfl
    ·have c:¬ (!decide (s1 (ch x lo)=s1 (ch y lo)))=true:=c
     rw[eP] at c
     have c:ch x lo=ch y lo:=by simpa using c
     refine⟨_,_,rfl,s2,e2,?_⟩
     rw[l2,sn]
     unfold bS
     rw[cy (λw=>w c)]
     rfl
  ·rintro σ H4 ⟨v,zs,rfl,s4,e4,l4⟩
   rw[aI,cW] at l4
   refine⟨p,zs,rfl,.inl (aD.of e4),?_⟩
   rw[l4]
   exact k H4 (s03.trans' s4)
theorem y7 (q:Nat)(L:List Nat):eF (iN q) (L.map iN)=decide (q∈L):=by
 unfold eF
 rw[List.any_map,i6,List.any_eq_true,dX]
 constructor
 ·rintro⟨x,hx,e⟩
  have e:((x:Int) == (q:Int))=true:=e
  have e:(x:Int)=q:=by simpa using e
  have:x=q:=by omega
  rw[<- this]; exact hx
 ·intro h
  exact⟨q,h,show((q:Int) == (q:Int))=true by simp⟩
theorem nE (L:List Nat):(L.map iN).all hW=true:=by
 rw[List.all_map,jU]
 exact λ_ _=>rfl
theorem jz {α:Type}{p:α->Bool}{l:List α}{i:Nat}{a:α}(h:l[i]? = some a):(l.take (i + 1)).filter p=(l.take i).filter p ++ (if p a=true then [a] else []):=by
 rw[dA,h,pT]
 congr 1
 cases z:p a <;> simp[z]
end
abbrev uY:Stmt:=ak 26
abbrev qV:Stmt:=ak 32
abbrev qZ:Stmt:=ak 61
def gF (qs:List Nat)(x:Str)(i:Nat):Nat:=if i∈qs then df (ch x i) else ch x i
def bM (n:Nat)(qs:List Nat)(x:Str):Str:=tx n (gF qs x)
theorem Bp {c:Nat}(h:c=121∨c=110):df c=121∨df c=110:=by
 rcases h with rfl | rfl
 ·exact .inr rfl
 ·exact .inl rfl
theorem kH {n:Nat}{qs:List Nat}{x:Str}(h:Row n x):Row n (bM n qs x):=by
 refine⟨ce _ _,λi hi=>?_⟩
 unfold bM
 rw[bE hi]
 unfold gF
 split
 ·exact Bp (h.bin i hi)
 ·exact h.bin i hi
def eY (rs:List Str)(n:Nat)(z:Str):Bool:=(fM rs 0 (bB z n)).isEmpty
def hV (rs:List Str)(n:Nat)(x:Str):List Str:=((cD rs n).map λks=>bM n (ks.map (·.1)) x).filter (eY rs n)
theorem C7 (rs:List Str)(n:Nat)(x:Str):(hV rs n x).length<=n:=by
 unfold hV
 refine b8 (gT _ _) ?_
 rw[aI]
 unfold cD
 rw[aI]
 exact iU rs n
section
variable {P:Program}{w:World}{K:PySem.W.Frag}{mg:Str->Option Value}{base:Heap}{C fi fa ft fy fm fc:Addr}{gi ga gt gy gm gc:FuncData}{W BC BS fW fC fS:Addr}{gW gC gS:FuncData}
def AB:Sp:=λvs H Q _=>∃ a:Nat,vs=[s1 a]/\iI a/\Q (s1 (df a)) H
abbrev O8:List Str:=["sign"]
abbrev sS:List Str:=["sign"]
theorem Hw:FnScope O8 sS (aS uY):={}
theorem xY {f fs:Addr}{fd gs:FuncData}(D:Df K mg "other" uY sS f fd) (Ds:Df K mg "check_sign" qo ["sign"] fs gs):aG P w K mg base (aH P w) 2 f fd sS AB:=by
 refine D.F.okN Hw (λvs H Q E h=>?_) (λcdv A outer s H vs Q E hr h=>?_)
 ·obtain⟨a,rfl,_⟩:=h
  rfl
 ·obtain⟨a,rfl,ha,k⟩:=h
  refine⟨_,aK (bd (aO Ds (xb Ds) (hr.mono (by decide)) aJ (aA (pv 0) aC)))
   (aL (aX (iB (aw cF (pv 0) av (ao _)) av av))),?_⟩
  refine⟨_,rfl,a,rfl,ha,_,rfl,rfl,_,rfl,bG (λc=>?_) (λc=>?_)⟩
  ·have c:decide (s1 a=s1 121)=true:=c
   rw[eP] at c
   have c:a=121:=by simpa using c
   rw[c] at k
   exact k
  ·have c:¬ decide (s1 a=s1 121)=true:=c
   rw[eP] at c
   have c:¬ a=121:=by simpa using c
   have e:df a=121:=aN c
   rw[e] at k
   exact k
def wq (K:PySem.W.Frag):Sp:=λvs H Q _=>kF λ(l:Addr) (n:Nat) (qs:List Nat) (x:Str)=>vs=[.str x,.ref l]/\Row n x/\n<=12/\aD K H l (qs.map iN)/\∀ H',aB H H'->Q (.str (bM n qs x)) H'
abbrev O3:List Str:=["row", "questions"]
abbrev nX:List Str:=["row", "questions"]
theorem Hn:FnScope O3 nX (aS qV):={}
abbrev ET:List Str:=["at", "sign", "questions"]
theorem Bs:ET.Nodup:=by trivial
theorem xX {f fo:Addr}{fd go:FuncData}(D:Df K mg "turned" qV nX f fd) (Do:Df K mg "other" uY sS fo go) (Go:aG P w K mg base (aH P w) 2 fo go sS AB) (M:Gm mg):aG P w K mg base (aH P w) 3 f fd nX (wq K):=by
 refine D.F.okN Hn (λvs H Q E h=>?_) (λcdv A outer s H vs Q E hr h=>?_)
 ·obtain⟨l,n,qs,x,rfl,_⟩:=h
  rfl
 ·obtain⟨l,n,qs,x,rfl,hx,n12,hl,k⟩:=h
  refine⟨_,aL (aX (hG wK wJ wI rB av (aA (cS (g:=(eW K 2 (cG (cB 0) (cG (cB 1) eX)))) (N':=ET) (fm:=[none,none,some 1]) rfl ⟨rfl,by trivial,by trivial,rfl,rfl,rfl⟩ (og (by rfl) M.enum (aA (pv 0) aC)) (λ_ _ _ _=>(dF rfl (bF (aU (i:=0) Bs rfl (Or.inl rfl)) (bF (aU (i:=1) Bs rfl (Or.inl rfl)) dE)))) (λ_ _ _ _=>cU) (λ_ _ _ _=>(iB (aw (r:=jj K false) n4 (pv 0) (pv 2) (by rfl)) (aO Do Go (hr.mono (by decide)) aJ (aA (pv 1) aC)) (pv 1)))) aC))),?_⟩
  refine⟨rfl,_,rfl,x,rfl,λp hp=>?_⟩
  refine wF (λi σ H2=>∃ v0 v1,σ=[v0,v1,some (.ref l)]/\aB H H2/\H2 p=some (.lst ((List.range i).map λj=>s1 (gF qs x j)))) ⟨none,none,rfl,aB.new hp,aF⟩ ?_ ?_
  ·rintro i T σ H2 hi hT ⟨v0,v1,rfl,s2,e2⟩
   rw[hx.len] at hi
   have sT:=aB.new (o:=.tup [.int i,sg x i]) hT
   have fin:∀ a:Nat,a=gF qs x i->∃ ys,upd H2 T (.tup [.int i,sg x i]) p=some (.lst ys)/\ys.length < sizeLine/\∃ v0 v1,[some (V.int i),some (sg x i),some (V.ref l)]=[v0,v1,some (.ref l)]/\aB H (upd (upd H2 T (.tup [.int i,sg x i])) p (.lst (ys ++ [s1 a])))/\upd (upd H2 T (.tup [.int i,sg x i])) p (.lst (ys ++ [s1 a])) p=some (.lst ((List.range (i + 1)).map λj=>s1 (gF qs x j))):=λa e=>by
    refine⟨_,sT _ _ e2,h9 _ _ (by omega),_,_,rfl,bW hp (s2.trans' sT),?_⟩
    rw[aF,<- iu,e]
   refine⟨T,_,rfl,bT.of aF,rfl,_,_,rfl,_,_,rfl,rfl,ax (B:=True) ?_⟩
   refine⟨_,rfl,_,rfl,l,_,rfl,.inl ((s2.trans' sT).seq hl),rfl,nE _,_,rfl,?_⟩
   show if eF (iN i) _=true then _ else _
   rw[y7]
   by_cases c:i∈qs
   ·rw[bR c]
    refine ax ⟨_,rfl,ch x i,rfl,hx.bin i hi,?_⟩
    exact fin _ (by unfold gF; rw[aP c])
   ·rw[cy c]
    refine aW ⟨_,rfl,?_⟩
    exact fin (ch x i) (by unfold gF; rw[aN c])
  ·rintro σ H2 ⟨v0,v1,rfl,s2,e2⟩
   rw[hx.len] at e2
   refine⟨_,p,(List.range n).map λj=>(⟨#[gF qs x j]⟩:Str),rfl,rfl,?_,by decide,?_,?_⟩
   ·rw[gR]
    exact aD.of e2
   ·rw[rL,aI,dk]; omega
   ·rw[qD]
    exact k H2 s2
end
abbrev uo:Stmt:=ak 31
abbrev uP:Stmt:=ak 63
abbrev uN:Stmt:=ak 58
theorem NL {rs:List Str}{n:Nat}{x:Str}(h:b6 rs n x):eY rs n x=true:=by
 unfold eY
 rw[xy h]; rfl
theorem MC {rs:List Str}{n:Nat}{x:Str}(hx:Row n x)(h:eY rs n x=true):b6 rs n x:=NK hx (List.isEmpty_iff.mp h)
theorem Ce {rs:List Str}{n l i:Nat}(hi:i < n):i∈(bq rs n l).map (·.1)↔bA rs l i=true:=by
 rw[List.mem_map]
 constructor
 ·rintro⟨⟨r,a⟩,h,rfl⟩
  have h2:=(nJ h).2
  cases z:bA rs l r with
  | true=>rfl
  | false=>rw[m9.mpr z] at h2; cases h2
 ·intro h
  cases z:dj rs l i with
  | none=>rw[m9.mp z] at h; cases h
  | some a=>exact⟨(i,a),xn hi z,rfl⟩
theorem wl {rs:List Str}{n l:Nat}{x:Str}(hx:Row n x):ki rs n l x (bM n ((bq rs n l).map (·.1)) x):=λi hi=>by
 unfold bM
 rw[bE hi]
 unfold gF
 cases z:bA rs l i with
 | true =>
  rw[aP ((Ce hi).mpr z)]
  have b:=hx.bin i hi
  unfold df
  constructor
  ·intro h
   split at h <;> omega
  ·intro h; cases h
 | false=>rw[aN (λw=>by rw[(Ce hi).mp w] at z; cases z)]; exact⟨λ_=>rfl,λ_=>rfl⟩
def dP (n:Nat)(x z:Str):Nat:=(List.range n).countP (bS x z)
section
variable {rs:List Str}{n:Nat}(hrs:∀ x∈rs,Row n x)
include hrs
theorem MX {x z g:Str}{l:Nat}(rx:Row n x)(rg:Row n g)(rz:Row n z)(bx:b6 rs n x)(bg:b6 rs n g)(ln:l < n)(t:ki rs n l x z)(d:¬ ch x l=ch g l):dP n z g < dP n x g:=by
 have all:∀ i,i < n->bA rs l i=true->ch z i=ch g i:=λi hi ht=>by
  have a1:¬ ch z i=ch x i:=λw=>by rw[(t i hi).mp w] at ht; cases ht
  have a2:¬ ch x i=ch g i:=λw=>d ((lR hrs rx rg bx bg ln hi ht).mp w)
  have b1:=rz.bin i hi
  have b2:=rx.bin i hi
  have b3:=rg.bin i hi
  omega
 refine yL (p:=bS z g) (q:=bS x g) (λi hi h=>?_) (bK.mpr ln) ?_ (bR d)
 ·have hi:=bK.mp hi
  have h:¬ ch z i=ch g i:=cw h
  cases zt:bA rs l i with
  | true=>exact absurd (all i hi zt) h
  | false=>exact bR (by rw[<- (t i hi).mpr zt]; exact h)
 ·exact cy (λw=>w (all l ln (tj hrs ln)))
theorem MW {x z g:Str}{l:Nat}(rx:Row n x)(rg:Row n g)(rz:Row n z)(bx:b6 rs n x)(bg:b6 rs n g)(ln:l < n)(t:ki rs n l x z)(h:dP n z g < dP n x g):¬ ch x l=ch g l:=λd=>by
 have le:dP n x g<=dP n z g:=List.countP_mono_left λi hi h=>by
  have hi:=bK.mp hi
  have h:¬ ch x i=ch g i:=cw h
  cases zt:bA rs l i with
  | true=>exact absurd ((lR hrs rx rg bx bg ln hi zt).mpr d) h
  | false=>exact bR (by rw[(t i hi).mpr zt]; exact h)
 omega
theorem MZ {x z g:Str}{l:Nat}(rx:Row n x)(rg:Row n g)(rz:Row n z)(hl:l∈aR rs n)(t:ki rs n l x z)(d:¬ ch x l=ch g l):dfc rs n z g + 1=dfc rs n x g:=by
 have ln:∀ l∈aR rs n,l < n/\dh rs l=true:=λl hl=>by
  unfold aR at hl
  rw[cY,bK] at hl
  exact hl
 have nd:(aR rs n).Nodup:=List.Nodup.sublist List.filter_sublist List.nodup_range
 have other:∀ l2∈aR rs n,l2≠l->bS z g l2=bS x g l2:=λl2 h2 ne=>by
  have a:=ln l hl
  have b:=ln l2 h2
  have tf:bA rs l l2=false:=by
   rcases Nat.lt_or_gt_of_ne ne with w | w
   ·cases zt:bA rs l l2 with
    | false=>rfl
    | true =>
     have:=mU hrs a.1 b.1 zt
     rw[(m3.mp a.2).2 l2 w] at this
     cases this
   ·exact(m3.mp b.2).2 l w
  unfold bS
  rw[(t l2 b.1).mpr tf]
 have here:bS z g l=false/\bS x g l=true:=by
  refine⟨cy (λw=>w ?_),bR d⟩
  have a:=ln l hl
  have a1:¬ ch z l=ch x l:=λw=>by
   have:=(t l a.1).mp w
   rw[tj hrs a.1] at this
   cases this
  have b1:=rz.bin l a.1
  have b2:=rx.bin l a.1
  have b3:=rg.bin l a.1
  omega
 unfold dfc
 revert other nd hl
 generalize aR rs n=L
 intro hl nd other
 clear ln
 induction L with
 | nil=>cases hl
 | cons a L ih =>
  rw[tL,tL]
  rw[List.nodup_cons] at nd
  by_cases e:a=l
  ·subst e
   have:L.countP (bS z g)=L.countP (bS x g):=by
    refine List.countP_congr λl2 h2=>?_
    rw[other l2 (dy _ h2) (λw=>nd.1 (w ▸ h2))]
   rw[this,here.1,here.2]
   rfl
  ·rcases bh.mp hl with w | w
   ·exact absurd w.symm e
   ·have:=ih w nd.2 λl2 h2=>other l2 (dy _ h2)
    rw[other a eJ e]
    omega
end
structure Wk (rs:List Str) (n:Nat) (x g:Str) (ts:List Str):Prop where
 head:ts[0]? = some x
 good:∀ y∈ts,Row n y/\b6 rs n y
 step:∀ i a b,ts[i]? = some a->ts[i + 1]? = some b->∃ l,l∈aR rs n/\¬ ch a l=ch g l/\ki rs n l a b
section
variable {P:Program}{w:World}{K:PySem.W.Frag}{mg:Str->Option Value}{base:Heap}{C fi fa ft fy fm fc:Addr}{gi ga gt gy gm gc:FuncData}
def HJ:Sp:=λvs H Q _=>ig λ(n:Nat) (x y:Str)=>vs=[.str x,.str y]/\Row n x/\Row n y/\n<=12/\∀ p xs H',H p=none->aB H H'->H' p=some (.lst xs)->xs.length=dP n x y->Q (.ref p) H'
abbrev OO:List Str:=["one", "other"]
abbrev wO:List Str:=["one", "other"]
theorem IN:FnScope OO wO (aS uo):={}
abbrev Ep:List Str:=["at", "one", "other"]
theorem L1:Ep.Nodup:=by trivial
theorem Bi {f:Addr}{fd:FuncData}(D:Df K mg "differ" uo wO f fd) (B:Bt mg):aG P w K mg base (aH P w) 1 f fd wO HJ:=by
 refine D.F.okN IN (λvs H Q E h=>?_) (λcdv A outer s H vs Q E hr h=>?_)
 ·obtain⟨n,x,y,rfl,_⟩:=h
  rfl
 ·obtain⟨n,x,y,rfl,hx,hy,n12,k⟩:=h
  refine⟨_,aL (aX (cS (N':=Ep) (fm:=[none,some 0,some 1]) rfl ⟨rfl,by trivial,by trivial,rfl,rfl,rfl⟩ (gH (by rfl) B.range (aA (bC j4 (by rfl) B.len d7 (aA (pv 0) aC)) aC)) (λ_ _ _ _=>(aU (i:=0) L1 rfl (Or.inl rfl))) (λ_ _ _ _=>(eV (aw jt (af dS (pv 1) (pv 0) (λ_ _=>rfl)) (af dS (pv 2) (pv 0) (λ_ _=>rfl)) (ao _)))) (λ_ _ _ _=>(pv 0)))),?_⟩
  have sx:x.length<=sizeLine:=by rw[hx.len]; exact ay (by omega)
  have sy:y.length<=sizeLine:=by rw[hy.len]; exact ay (by omega)
  refine⟨_,rfl,_,rfl,sx,_,rfl,by omega,by rw[hx.len]; omega,λp hp=>?_⟩
  refine kB (n:=((x.length:Nat):Int).toNat) (λi σ H2=>∃ v zs,σ=[v,some (.str x),some (.str y)]/\aB H H2/\H2 p=some (.lst zs)/\zs.length=(List.range i).countP (bS x y)) ⟨none,[],rfl,aB.new hp,aF,rfl⟩ ?_ ?_
  ·rintro i σ H2 hi ⟨v,zs,rfl,s2,e2,l2⟩
   have hi:i < n:=by rw[hx.len] at hi; omega
   have sn:(List.range (i + 1)).countP (bS x y)=(List.range i).countP (bS x y) + (bS x y i).toNat:=by
    rw[mH,List.countP_append]
    congr 1
   have c12:zs.length<=12:=by
    rw[l2]
    refine b8 yw ?_
    rw[dk]
    omega
   rw[j6]
   refine⟨_,rfl,_,rfl,_,_,_,rfl,rfl,sx,iz hx hi,_,rfl,_,rfl,_,_,_,rfl,rfl,sy,iz hy hi,rfl,_,rfl,bG (λc=>?_) (λc=>?_)⟩
   ·have c:(!decide (s1 (ch x i)=s1 (ch y i)))=true:=c
    rw[eP] at c
    have c:¬ ch x i=ch y i:=by simpa using c
    refine⟨_,rfl,zs,e2,cA c12 (by decide),_,_,rfl,bW hp s2,aF,?_⟩
    rw[cR,l2,sn]
    unfold bS
    rw[bR c]
    rfl
   ·have c:¬ (!decide (s1 (ch x i)=s1 (ch y i)))=true:=c
    rw[eP] at c
    have c:ch x i=ch y i:=by simpa using c
    refine⟨_,_,rfl,s2,e2,?_⟩
    rw[l2,sn]
    unfold bS
    rw[cy (λw=>w c)]
    rfl
  ·rintro σ H2 ⟨v,zs,rfl,s2,e2,l2⟩
   have e:((x.length:Nat):Int).toNat=n:=by rw[hx.len]; omega
   rw[e] at l2
   exact k p zs H2 hp s2 e2 l2
def wu (C:Addr):Sp:=λvs H Q _=>j7 λ(t dx kp bt:Addr) (n m:Nat) (rs:List Str) (x:Str)=>vs=[.ref t,.str x]/\TabAt C H t dx kp bt n m rs/\(∀ x∈rs,Row n x)/\Row n x/\b6 rs n x/\1<=n/\n<=12 /\
 ∀ p H',H p=none->aB H H'->H' p=some (.lst ((hV rs n x).map V.str))->Q (.ref p) H'
abbrev OA:List Str:=["table", "row", "near"]
abbrev nY:List Str:=["table", "row"]
theorem Ak:FnScope OA nY (aS qZ):={}
abbrev Eb:List Str:=["bundle", "row"]
theorem Kk:Eb.Nodup:=by trivial
abbrev Ea:List Str:=["question", "sign"]
theorem Bw:Ea.Nodup:=by trivial
abbrev EZ:List Str:=["told", "table"]
theorem Kj:EZ.Nodup:=by trivial
theorem BY {f fk fc' fb fu:Addr}{fd gk gc' gb gu:FuncData}(D:Df K mg "neighbours" qZ nY f fd) (Dk:Df K mg "lacks" qi dW fk gk) (Gk:aG P w K mg base (aH P w) 6 fk gk dW (x5 C)) (Dc:Df K mg "check_ruling" jg dW fc' gc') (Gc:aG P w K mg base (aH P w) 7 fc' gc' dW (lL C))
  (Db:Df K mg "bundles" mv ["table"] fb gb) (Gb:aG P w K mg base (aH P w) 6 fb gb ["table"] (u0 C)) (Du:Df K mg "turned" qV nX fu gu) (Gu:aG P w K mg base (aH P w) 3 fu gu nX (wq K)):aG P w K mg base (aH P w) 8 f fd nY (wu C):=by
 refine D.F.okN Ak (λvs H Q E h=>?_) (λcdv A outer s H vs Q E hr h=>?_)
 ·obtain⟨t,dx,kp,bt,n,m,rs,x,rfl,_⟩:=h
  rfl
 ·obtain⟨t,dx,kp,bt,n,m,rs,x,rfl,tab,hrs,hr',bx,n1,n12,k3⟩:=h
  refine⟨_,aK (bd (aO Dc Gc (hr.mono (by decide)) aJ (aA (pv 0) (aA (pv 1) aC))))
   (aK (oZ (i:=2) (N':=Eb) (fm:=[none,some 1]) rfl Ak.nd rfl rfl ⟨rfl,by trivial,by trivial,rfl,rfl,rfl⟩ (cK (aO Db Gb (hr.mono (by decide)) aJ (aA (pv 0) aC))) (λ_ _ _ _=>(aU (i:=0) Kk rfl (Or.inl rfl))) (λ_ _ _ _=>cU) (λ_ _ _ _=>(aO Du Gu (hr.mono (by decide)) aJ (aA (pv 1) (aA (cS (g:=(eW K 2 (cG (cB 0) (cG (cB 1) eX)))) (wi:=vi K (fJ 0)) (N':=Ea) (fm:=[none,none]) rfl ⟨rfl,by trivial,by trivial,rfl,rfl,rfl⟩ (cK (pv 0)) (λ_ _ _ _=>(dF rfl (bF (aU (i:=0) Bw rfl (Or.inl rfl)) (bF (aU (i:=1) Bw rfl (Or.inl rfl)) dE)))) (λ_ _ _ _=>cU) (λ_ _ _ _=>(pv 0))) aC)))))
   (aL (aX (cS (N':=EZ) (fm:=[none,some 0]) rfl ⟨rfl,by trivial,by trivial,rfl,rfl,rfl⟩ (cK (pv 2)) (λ_ _ _ _=>(aU (i:=0) Kj rfl (Or.inl rfl))) (λ_ _ _ _=>(eV (eD (J5 (K:=K) rfl (aO Dk Gk (hr.mono (by decide)) aJ (aA (pv 1) (aA (pv 0) aC))) (λ_=>rfl))))) (λ_ _ _ _=>(pv 0)))))),?_⟩
  refine⟨_,rfl,_,rfl,t,dx,kp,bt,n,m,rs,x,rfl,tab,hr',bx,n1,n12,λH1 s1'=>?_⟩
  refine⟨_,rfl,t,dx,kp,bt,n,m,rs,rfl,tab.mono s1',hrs,n1,n12,λq H2 b2=>?_⟩
  obtain⟨bs,e2,l2,f2,g2⟩:=b2.at_
  refine⟨q,rfl,⟨_,aD.of e2⟩,λp hp=>?_⟩
  have bl:(cD rs n).length<=12:=by unfold cD; rw[aI]; exact b8 (iU rs n) n12
  refine eI (K:=K) (a:=q) (xs:=bs.map V.ref) (λi σ H3=>∃ v,σ=[v,some (.str x)]/\aB H2 H3/\H3 p=some (.lst ((((cD rs n).take i).map λks=>bM n (ks.map (·.1)) x).map V.str))) ⟨none,rfl,aB.new hp,aF⟩ (λi σ H3 _ ⟨_,_,s3,_⟩=>aD.of (s3 _ _ e2)) ?_ ?_
  ·rintro i y σ H3 hi ⟨v,rfl,s3,e3⟩
   rw[ar] at hi
   cases z:bs[i]? with
   | none=>rw[z] at hi; cases hi
   | some b =>
    rw[z] at hi
    cases hi
    have il:=(cE.mp z).1
    have zk:(cD rs n)[i]? = some (cD rs n)[i]:=bZ (by omega)
    generalize (cD rs n)[i]=ks at *
    obtain⟨as,ea,ta⟩:=g2 i b ks z zk
    have kl:ks.length<=12:=by
     obtain⟨lo,_,rfl⟩:=cI.mp (bI zk)
     exact b8 (yS rs n lo) n12
    refine eN ⟨_,rfl,_,rfl,b,rfl,⟨_,aD.of (s3 _ _ ea)⟩,λpq hpq=>?_⟩
    refine eI (K:=K) (a:=b) (xs:=as.map V.ref) (λj σ H4=>∃ v0 v1,σ=[v0,v1]/\aB H3 H4/\H4 pq=some (.lst (((ks.take j).map (·.1)).map iN))) ⟨none,none,rfl,aB.new hpq,aF⟩ (λj σ H4 _ ⟨_,_,_,s4,_⟩=>aD.of (s4 _ _ (s3 _ _ ea))) ?_ ?_
    ·rintro j y σ H4 hj ⟨v0,v1,rfl,s4,e4⟩
     obtain⟨r1,k1',rfl,ek,er⟩:=(ta.mono (s3.trans' s4)).item hj
     rw[ar] at ek
     cases zj:ks[j]? with
     | none=>rw[zj] at ek; cases ek
     | some pr =>
      rw[zj] at ek
      cases ek
      refine lI er ⟨_,rfl,_,e4,?_,_,_,rfl,bW hpq s4,?_⟩
      ·rw[aI,aI,cZ]
       exact cA (show _<=12 by omega) (by decide)
      ·rw[aF,dA,zj,bQ,bQ]
       rfl
    ·rintro σ H4 ⟨v0,v1,rfl,s4,e4⟩
     have lk:(as.map V.ref).length=ks.length:=by rw[aI,ta.1,aI]
     rw[lk,cW] at e4
     refine⟨pq,n,ks.map (·.1),x,rfl,hr',n12,aD.of e4,λH5 s5=>?_⟩
     have s35:=s4.trans' s5
     refine⟨_,s35 _ _ e3,?_,_,rfl,bW hp (s3.trans' s35),?_⟩
     ·rw[aI,aI,cZ]
      exact cA (show _<=12 by omega) (by decide)
     ·rw[aF,dA,zk,bQ,bQ]
      rfl
  rintro σ H3 ⟨v,rfl,s3,e3⟩
  rw[aI,l2,cW] at e3
  have s03:=s1'.trans' (b2.same.trans' s3)
  refine⟨_,rfl,p,rfl,⟨_,aD.of e3⟩,λpr hpr=>?_⟩
  have nl:((cD rs n).map λks=>bM n (ks.map (·.1)) x).length<=12:=by rw[aI]; exact bl
  refine eI (K:=K) (a:=p) (xs:=((cD rs n).map λks=>bM n (ks.map (·.1)) x).map V.str) (λi σ H4=>∃ v,σ=[v,some (.ref t)]/\aB H3 H4/\H4 pr=some (.lst (((((cD rs n).map λks=>bM n (ks.map (·.1)) x).take i).filter (eY rs n)).map V.str))) ⟨none,rfl,aB.new hpr,aF⟩ (λi σ H4 _ ⟨_,_,s4,_⟩=>aD.of (s4 _ _ e3)) ?_ ?_
  ·rintro i y σ H4 hi ⟨v,rfl,s4,e4⟩
   rw[ar] at hi
   cases z:((cD rs n).map λks=>bM n (ks.map (·.1)) x)[i]? with
   | none=>rw[z] at hi; cases hi
   | some zz =>
    rw[z] at hi
    cases hi
    have rz:Row n zz:=by
     obtain⟨ks,_,rfl⟩:=cI.mp (bI z)
     exact kH hr'
    refine⟨_,rfl,_,rfl,t,dx,kp,bt,n,m,rs,zz,rfl,tab.mono (s03.trans' s4),rz,n1,n12,λpl H5 hpl a5=>?_⟩
    obtain⟨s5,as,ea,ta⟩:=a5
    cases zp:fM rs 0 (bB zz n) with
    | nil =>
     rw[zp] at ta
     have:as=[]:=mJ.mp ta.1
     subst this
     have fz:eY rs n zz=true:=by unfold eY; rw[zp]; rfl
     refine⟨false,.inl ⟨_,aD.of ea,rfl⟩,ax ⟨_,rfl,_,s5 _ _ e4,?_,_,rfl,bW hpr (s4.trans' s5),?_⟩⟩
     ·rw[aI]
      have h1:=gT (eY rs n) (((cD rs n).map λks=>bM n (ks.map (·.1)) x).take i)
      rw[cZ] at h1
      exact cA (show _<=12 by omega) (by decide)
     ·rw[aF,jz z,fz,aP rfl,bQ]
      rfl
    | cons k0 kt =>
     rw[zp] at ta
     cases as with
     | nil=>exact absurd ta.1 (by simp)
     | cons a0 at' =>
      have fz:eY rs n zz=false:=by unfold eY; rw[zp]; rfl
      refine⟨true,.inl ⟨_,aD.of ea,rfl⟩,aW ⟨_,rfl,s4.trans' s5,?_⟩⟩
      rw[jz z,fz]
      simpa using s5 _ _ e4
  ·rintro σ H4 ⟨v,rfl,s4,e4⟩
   rw[aI,cW] at e4
   exact k3 pr H4 (ox s03 hpr) (s03.trans' s4) e4
theorem xl {rs:List Str}{n:Nat}{x z:Str}(hx:Row n x):z∈hV rs n x↔∃ l,l∈aR rs n/\z=bM n ((bq rs n l).map (·.1)) x/\b6 rs n z:=by
 unfold hV
 rw[cY,List.mem_map]
 constructor
 ·rintro⟨⟨ks,hk,rfl⟩,hf⟩
  obtain⟨l,hl,rfl⟩:=cI.mp hk
  exact⟨l,hl,rfl,MC (kH hx) hf⟩
 ·rintro⟨l,hl,rfl,hb⟩
  exact⟨⟨_,cI.mpr ⟨l,hl,rfl⟩,rfl⟩,NL hb⟩
theorem EI (us:List Str)(z:Str):cL ((us ++ [z]).map V.str) (-1)=some (.str z):=by
 unfold cL kU
 have e:(((us ++ [z]).map V.str).length:Nat)=us.length + 1:=by rw[aI,cR]; rfl
 rw[aN (by decide),e,aP (by omega)]
 show((us ++ [z]).map V.str)[_]? = _
 have e2:(-1 + ((us.length + 1:Nat):Int)).toNat=us.length:=by omega
 rw[e2,bQ,ku (by rw[aI]; exact aY _),aI,wS]
 rfl
theorem CK {rs:List Str}{n l:Nat}(h:l∈aR rs n):l < n:=by
 unfold aR at h
 rw[cY,bK] at h
 exact h.1
def A2 (C:Addr):Sp:=λvs H Q _=>gY λ(t dx kp bt:Addr) (n m:Nat) (rs:List Str) (x g:Str)=>vs=[.ref t,.str x,.str g]/\TabAt C H t dx kp bt n m rs/\(∀ x∈rs,Row n x)/\Row n x/\b6 rs n x/\Row n g/\b6 rs n g/\x≠g/\1<=n/\n<=12 /\
 ∀ z l H',Row n z->b6 rs n z->l∈aR rs n->¬ ch x l=ch g l->ki rs n l x z->aB H H'->Q (.str z) H'
abbrev O2:List Str:=["table", "row", "goal", "far"]
abbrev sO:List Str:=["table", "row", "goal"]
theorem Ag:FnScope O2 sO (aS uP):={}
abbrev ES:List Str:=["near", "goal", "far"]
theorem Kb:ES.Nodup:=by trivial
theorem Jd {f fn fd':Addr}{fd gn gd':FuncData}(D:Df K mg "step_towards" uP sO f fd) (Dn:Df K mg "neighbours" qZ nY fn gn) (Gn:aG P w K mg base (aH P w) 8 fn gn nY (wu C)) (Dd:Df K mg "differ" uo wO fd' gd') (B:Bt mg):aG P w K mg base (aH P w) 9 f fd sO (A2 C):=by
 refine D.F.okN Ag (λvs H Q E h=>?_) (λcdv A outer s H vs Q E hr h=>?_)
 ·obtain⟨t,dx,kp,bt,n,m,rs,x,g,rfl,_⟩:=h
  rfl
 ·obtain⟨t,dx,kp,bt,n,m,rs,x,g,rfl,tab,hrs,rx,bx,rg,bg,ne,n1,n12,k⟩:=h
  refine⟨_,aK (aq (i:=3) Ag.nd rfl (Or.inr rfl) (bC fO (by rfl) B.len d7 (aA (aO Dd (Bi Dd B) (hr.mono (by decide)) aJ (aA (pv 1) (aA (pv 2) aC))) aC)))
   (aL (aX (af bN (cS (N':=ES) (fm:=[none,some 2,some 3]) rfl ⟨rfl,by trivial,by trivial,rfl,rfl,rfl⟩ (cK (aO Dn Gn (hr.mono (by decide)) aJ (aA (pv 0) (aA (pv 1) aC)))) (λ_ _ _ _=>(aU (i:=0) Kb rfl (Or.inl rfl))) (λ_ _ _ _=>(eV (aw iQ (bC (ND (K:=K) rfl) (by rfl) B.len d7 (aA (aO Dd (Bi Dd B) (hr.mono (by decide)) aJ (aA (pv 0) (aA (pv 1) aC))) aC)) (pv 2) (ao _)))) (λ_ _ _ _=>(pv 0))) aM (λ_ _=>rfl)))),?_⟩
  refine⟨_,rfl,_,rfl,n,x,g,rfl,rx,rg,n12,λp1 xs1 H1 hp1 s1' e1 l1=>?_⟩
  refine⟨p1,_,rfl,.inl (aD.of e1),?_⟩
  refine⟨_,rfl,_,rfl,t,dx,kp,bt,n,m,rs,x,rfl,tab.mono s1',hrs,rx,bx,n1,n12,λq H2 hq s2 e2=>?_⟩
  refine⟨q,rfl,⟨_,aD.of e2⟩,λp hp=>?_⟩
  refine eI (K:=K) (a:=q) (xs:=(hV rs n x).map V.str) (λi σ H3=>∃ v,σ=[v,some (.str g),some (.int (xs1.length:Nat))]/\aB H2 H3/\H3 p=some (.lst ((((hV rs n x).take i).filter λz=>decide (dP n z g < dP n x g)).map V.str))) ⟨none,rfl,aB.new hp,aF⟩ (λi σ H3 _ ⟨_,_,s3,_⟩=>aD.of (s3 _ _ e2)) ?_ ?_
  ·rintro i y σ H3 hi ⟨v,rfl,s3,e3⟩
   rw[ar] at hi
   cases zz:(hV rs n x)[i]? with
   | none=>rw[zz] at hi; cases hi
   | some z =>
    rw[zz] at hi
    cases hi
    obtain⟨l,hl,ez,bz⟩:=(xl rx).mp (bI zz)
    have rz:Row n z:=by rw[ez]; exact kH rx
    have sn:∀ q:Str->Bool,(((hV rs n x).take (i + 1)).filter q)=(((hV rs n x).take i).filter q) ++ [z].filter q:=λq=>by
     rw[dA,zz,pT]
     rfl
    refine⟨_,rfl,_,rfl,n,z,g,rfl,rz,rg,n12,λp3 xs3 H4 hp3 s4 e4 l4=>⟨p3,_,rfl,.inl (aD.of e4),_,rfl,_,_,rfl,rfl,_,rfl,bG (λc=>?_) (λc=>?_)⟩⟩
    ·have c:decide (((xs3.length:Nat):Int) < (xs1.length:Nat))=true:=c
     have c:dP n z g < dP n x g:=by have:=cw c; omega
     refine⟨_,rfl,_,s4 _ _ e3,?_,_,rfl,bW hp (s3.trans' s4),?_⟩
     ·rw[aI]
      exact cA (show _<=12 from b8 (gT _ _) (b8 (List.length_take_le' _ _) (b8 (C7 rs n x) n12))) (by decide)
     ·rw[aF,sn,show[z].filter (λz=>decide (dP n z g < dP n x g))=[z] from yt (p:=λz=>decide (dP n z g < dP n x g)) (bR c),bQ]
      rfl
    ·have c:¬ decide (((xs3.length:Nat):Int) < (xs1.length:Nat))=true:=c
     have c:¬ dP n z g < dP n x g:=λw=>c (bR (by omega))
     refine⟨_,rfl,s3.trans' s4,?_⟩
     rw[s4 _ _ e3,sn,show[z].filter (λz=>decide (dP n z g < dP n x g))=[] from yu (p:=λz=>decide (dP n z g < dP n x g)) (λw=>c (cw w)),gX]
  ·rintro σ H3 ⟨v,rfl,s3,e3⟩
   rw[aI,cW] at e3
   obtain⟨l0,hl0,d0,t0⟩:=FV hrs rx rg bx bg ne
   have r0:Row n (bM n ((bq rs n l0).map (·.1)) x):=kH rx
   have b0:=t0 _ r0 (wl rx)
   have m0:bM n ((bq rs n l0).map (·.1)) x∈(hV rs n x).filter λz=>decide (dP n z g < dP n x g):=by
    rw[cY]
    exact⟨(xl rx).mpr ⟨l0,hl0,rfl,b0⟩,bR (MX hrs rx rg r0 bx bg (CK hl0) (wl rx) d0)⟩
   cases zl:(hV rs n x).filter λz=>decide (dP n z g < dP n x g) with
   | nil=>rw[zl] at m0; cases m0
   | cons z tl =>
    have mz:z∈(hV rs n x).filter λz=>decide (dP n z g < dP n x g):=by rw[zl]; exact eJ
    rw[cY] at mz
    obtain⟨l,hl,ez,bz⟩:=(xl rx).mp mz.1
    have rz:Row n z:=by rw[ez]; exact kH rx
    have tz:ki rs n l x z:=by rw[ez]; exact wl rx
    rw[zl] at e3
    refine⟨p,_,_,_,rfl,rfl,aD.of e3,(show cL _ ((0:Nat):Int)=_ from dv rfl),?_⟩
    exact k z l H3 rz bz hl (MW hrs rx rg rz bx bg (CK hl) tz (cw mz.2)) tz (s1'.trans' (s2.trans' s3))
def zy (C:Addr):Sp:=λvs H Q _=>gY λ(t dx kp bt:Addr) (n m:Nat) (rs:List Str) (x g:Str)=>vs=[.ref t,.str x,.str g]/\TabAt C H t dx kp bt n m rs/\(∀ x∈rs,Row n x)/\Row n x/\b6 rs n x/\Row n g/\b6 rs n g/\1<=n/\n<=12 /\
 ∀ p us H',H p=none->aB H H'->H' p=some (.lst ((us ++ [g]).map V.str))->Wk rs n x g (us ++ [g])->us.length=dfc rs n x g->Q (.ref p) H'
abbrev O0:List Str:=["table", "one", "other", "told"]
abbrev sM:List Str:=["table", "one", "other"]
theorem Af:FnScope O0 sM (aS uN):={}
theorem Wk.snoc {rs:List Str}{n:Nat}{x g z z':Str}{us:List Str}{l:Nat}(h:Wk rs n x g (us ++ [z]))(rz:Row n z')(bz:b6 rs n z')(hl:l∈aR rs n)(d:¬ ch z l=ch g l)(t:ki rs n l z z'):Wk rs n x g ((us ++ [z]) ++ [z']):=by
 refine⟨?_,λy hy=>?_,λi a b ha hb=>?_⟩
 ·rw[ky (by rw[cR]; exact Nat.succ_pos _)]
  exact h.head
 ·rcases gQ.mp hy with hy | hy
  ·exact h.good y hy
  ·rw[bH.mp hy]; exact⟨rz,bz⟩
 ·have L:(us ++ [z]).length=us.length + 1:=by rw[cR]; rfl
  by_cases c:i + 1 < us.length + 1
  ·rw[ky (by omega)] at ha hb
   exact h.step i a b ha hb
  ·have il:i + 1 < (us ++ [z]).length + 1:=by
    have:=(cE.mp hb).1
    rw[cR] at this
    exact this
   have e:i=us.length:=by omega
   subst e
   rw[ky (by omega),ku (aY _),wS] at ha
   rw[ku (by omega),L,wS] at hb
   cases ha
   cases hb
   exact⟨l,hl,d,t⟩
theorem JZ {f fk fs:Addr}{fd gk gs:FuncData}(D:Df K mg "way" uN sM f fd) (Dc:Df K mg "check_ruling" jg dW fk gk) (Gc:aG P w K mg base (aH P w) 7 fk gk dW (lL C)) (Dt:Df K mg "step_towards" uP sO fs gs) (Gt:aG P w K mg base (aH P w) 9 fs gs sO (A2 C)):aG P w K mg base (aH P w) 10 f fd sM (zy C):=by
 refine D.F.okN Af (λvs H Q E h=>?_) (λcdv A outer s H vs Q E hr h=>?_)
 ·obtain⟨t,dx,kp,bt,n,m,rs,x,g,rfl,_⟩:=h
  rfl
 ·obtain⟨t,dx,kp,bt,n,m,rs,x,g,rfl,tab,hrs,rx,bx,rg,bg,n1,n12,k⟩:=h
  refine⟨_,aK (bd (aO Dc Gc (hr.mono (by decide)) aJ (aA (pv 0) (aA (pv 1) aC))))
   (aK (bd (aO Dc Gc (hr.mono (by decide)) aJ (aA (pv 0) (aA (pv 2) aC))))
   (aK (aq (i:=3) Af.nd rfl (Or.inl rfl) (cT (aA (pv 1) aC)))
   (aK (B5 d8 (aw jt (af bN (pv 3) (vJ tX aM) (λ_ _=>rfl)) (pv 2) (ao _))
   (aL (bd (hG mD nU nS jL (pv 3) (aA (aO Dt Gt (hr.mono (by decide)) aJ (aA (pv 0) (aA (af bN (pv 3) (vJ tX aM) (λ_ _=>rfl)) (aA (pv 2) aC)))) aC)))))
   (aL (aX (pv 3)))))),?_⟩
  refine⟨_,rfl,_,rfl,t,dx,kp,bt,n,m,rs,x,rfl,tab,rx,bx,n1,n12,λH1 s1'=>?_⟩
  refine⟨_,rfl,_,rfl,t,dx,kp,bt,n,m,rs,g,rfl,tab.mono s1',rg,bg,n1,n12,λH2 s2=>?_⟩
  have s02:=s1'.trans' s2
  refine⟨_,rfl,ay (show 1<=100 by decide),λp hp=>?_⟩
  refine⟨λm σ H3=>∃(us:List Str) (z:Str),σ=[some (.ref t),some (.str x),some (.str g),some (.ref p)]/\aB H2 H3/\H3 p=some (.lst ((us ++ [z]).map V.str))/\Wk rs n x g (us ++ [z])/\us.length + dfc rs n z g=dfc rs n x g/\m=dfc rs n z g,
   ⟨_,[],x,rfl,aB.new hp,aF,⟨rfl,λy hy=>by rw[bH.mp hy]; exact⟨rx,bx⟩,λi a b ha hb=>by cases i <;> cases hb⟩,Nat.zero_add _,rfl⟩,?_⟩
  rintro m' σ H3 ⟨us,z,rfl,s3,e3,wk,ln,rfl⟩
  obtain⟨rz,bz⟩:=wk.good z (eK _ (List.mem_singleton_self z))
  refine⟨_,rfl,_,rfl,p,_,_,_,rfl,rfl,aD.of e3,EI us z,_,rfl,rfl,_,rfl,bG (λc=>?_) (λc=>?_)⟩
  ·have c:(!decide (V.str z=V.str g))=true:=c
   rw[w9] at c
   have c:z≠g:=by simpa using c
   refine⟨λσ' H'=>∃ m',m' < dfc rs n z g/\∃(us:List Str) (z:Str),σ'=[some (.ref t),some (.str x),some (.str g),some (.ref p)]/\aB H2 H'/\H' p=some (.lst ((us ++ [z]).map V.str))/\Wk rs n x g (us ++ [z])/\us.length + dfc rs n z g=dfc rs n x g/\m'=dfc rs n z g,λσ' H' h=>h,?_⟩
   have dl:dfc rs n x g<=12:=b8 (DH rs n x g) n12
   refine⟨_,rfl,.inl ⟨rfl,_,aD.of e3⟩,_,rfl,_,rfl,_,rfl,p,_,_,_,rfl,rfl,aD.of e3,EI us z,_,rfl,t,dx,kp,bt,n,m,rs,z,g,rfl,tab.mono (s02.trans' s3),hrs,rz,bz,rg,bg,c,n1,n12,λz' l H4 rz' bz' hl d tz s4=>?_⟩
   refine⟨p,_,_,rfl,rfl,s4 _ _ e3,?_,?_⟩
   ·rw[aI,cR]
    exact cA (show us.length + 1<=13 by omega) (by decide)
   have dt:=MZ hrs rz rg rz' hl tz d
   refine⟨_,(by omega:dfc rs n z' g < dfc rs n z g),us ++ [z],z',rfl,bW hp (s3.trans' s4),?_,wk.snoc rz' bz' hl d tz,?_,rfl⟩
   ·rw[aF,bQ (l₁:=us ++ [z])]
    rfl
   ·rw[cR]
    show us.length + 1 + _=_
    omega
  ·have c:¬ (!decide (V.str z=V.str g))=true:=c
   rw[w9] at c
   have c:z=g:=by simpa using c
   subst c
   have z0:=(DG hrs rz rz bz bz).mpr rfl
   exact⟨_,rfl,k p us H3 (ox s02 hp) (s02.trans' s3) e3 wk (by omega)⟩
end
abbrev mh:Stmt:=ak 94
section
variable {CX:gz}{P:Program}{w:World}{K:PySem.W.Frag}{mg:Str->Option Value}{base:Heap}{k:Nat}{f c:Addr}{qual:Str}{params:Arguments}{body:Expr}{scope:Scope}{cl:List (Str×Addr)}{pm ctv:Value}{N:List Str}{σ:St}{sp:Sp}
def g0 (a b c:Nat->Nat)(i:Nat):Nat:=if b i=c i then b i else a i
def HG:Sp:=λvs H Q _=>kF λ(a b c:Nat->Nat) (n:Nat)=>vs=[.str (tx n a),.str (tx n b),.str (tx n c)]/\n<=100/\Q (.str (tx n (g0 a b c))) H
abbrev Ng:List Str:=["_law_one", "_law_two", "_law_three", "_law_found", "_law_k"]
abbrev Pg:List Str:=["_law_one", "_law_two", "_law_three"]
theorem uI:FnScope Ng Pg (aS mh):={}
theorem rA {f:Addr}{fd:FuncData}(D:Df K mg "_law_go" mh Pg f fd) (B:Bt mg):aG P w K mg base (aH P w) 1 f fd Pg HG:=by
 refine D.F.okN uI (λvs H Q E h=>?_) (λcdv A outer s H vs Q E hr h=>?_)
 ·obtain⟨a,b,c,n,rfl,_⟩:=h
  rfl
 ·obtain⟨a,b,c,n,rfl,hn,q⟩:=h
  refine⟨_,aK (aq (i:=3) uI.nd rfl (Or.inl rfl) av)
   (aK (dD d8 rfl (gH (by rfl) B.range (aA (bC j4 (by rfl) B.len d7 (aA (pv 0) aC)) aC)) (aU (i:=4) uI.nd rfl (Or.inl rfl))
    (aL (aq (i:=3) uI.nd rfl (Or.inl rfl) (am kQ (pv 3) (iB (aw cF (af dS (pv 1) (pv 4) (λ_ _=>rfl)) (af dS (pv 2) (pv 4) (λ_ _=>rfl)) (ao _)) (af dS (pv 1) (pv 4) (λ_ _=>rfl)) (af dS (pv 0) (pv 4) (λ_ _=>rfl)))))))
   (aL (aX (pv 3)))),?_⟩
  refine⟨_,rfl,_,rfl,jD _ _ (by omega),_,rfl,by omega,by rw[ce]; omega,?_⟩
  have en:(((tx n a).length:Nat):Int).toNat=n:=by rw[ce]; omega
  rw[en]
  refine jy (λi σ H2=>∃ v,σ=[some (.str (tx n a)),some (.str (tx n b)),some (.str (tx n c)),some (.str (tx i (g0 a b c))),v]/\H2=H) ⟨none,rfl,rfl⟩ ?_ ?_
  ·rintro i σ H2 hi ⟨v,rfl,rfl⟩
   have ei:(0:Int) + (i:Int)=(i:Int):=j6 _
   have at':∀ a:Nat->Nat,cL (tx n a).cps.toList (0 + (i:Int))=some (a i):=λa=>by rw[ei]; exact qE hi
   refine⟨_,rfl,_,rfl,_,rfl,_,_,_,rfl,rfl,jD _ _ (by omega),at' b,_,rfl,_,rfl,_,_,_,rfl,rfl,jD _ _ (by omega),at' c,rfl,_,rfl,?_⟩
   refine bG (λz=>?_) (λz=>?_)
   ·have z:s1 (b i)=s1 (c i):=cw z
    rw[lW] at z
    refine⟨_,rfl,_,rfl,_,_,_,rfl,rfl,jD _ _ (by omega),at' b,_,_,rfl,rfl,mW i _ _ (by omega),some (.int (0 + i)),?_,rfl⟩
    rw[oF (show b i=g0 a b c i from(aP z).symm)]
    rfl
   ·have z:¬ s1 (b i)=s1 (c i):=λy=>z (bR y)
    rw[lW] at z
    refine⟨_,rfl,_,rfl,_,_,_,rfl,rfl,jD _ _ (by omega),at' a,_,_,rfl,rfl,mW i _ _ (by omega),some (.int (0 + i)),?_,rfl⟩
    rw[oF (show a i=g0 a b c i from(aN z).symm)]
    rfl
  ·rintro σ H2 ⟨v,rfl,rfl⟩
   exact⟨_,rfl,q⟩
end
abbrev uR:Stmt:=ak 95
theorem CF {rs:List Str}{n:Nat}{a b c:Str}(ha:Row n a)(hb:Row n b)(hc:Row n c)(Ba:b6 rs n a)(Bb:b6 rs n b)(Bc:b6 rs n c):Row n (tx n (g0 (ch a) (ch b) (ch c)))/\b6 rs n (tx n (g0 (ch a) (ch b) (ch c))):=by
 have e:∀ i,i < n->ch (tx n (g0 (ch a) (ch b) (ch c))) i=if ch b i=ch c i then ch b i else ch a i:=λi hi=>by rw[bE hi]; rfl
 refine⟨⟨ce _ _,λi hi=>?_⟩,E7 hb hc ha Bb Bc Ba e⟩
 rw[e i hi]
 split
 ·exact hb.bin i hi
 ·exact ha.bin i hi
section
variable {P:Program}{w:World}{K:PySem.W.Frag}{mg:Str->Option Value}{base:Heap}{C fi fa ft fy fm fc:Addr}{gi ga gt gy gm gc:FuncData}
def A4 (K:PySem.W.Frag):Sp:=λvs H Q _=>kF λ(l:Addr) (c:Int) (rs:List Str) (n:Nat)=>vs=[.ref l,.int c]/\aD K H l (rs.map V.str)/\0 < rs.length/\(∀ x∈rs,Row n x)/\n<=12/\∀ z H',Row n z->b6 rs n z->aB H H'->Q (.str z) H'
abbrev Nso:List Str:=["_law_rows_here", "_law_cell_here", "_law_drawn", "_law_found", "_law_first"]
abbrev sG:List Str:=["_law_rows_here", "_law_cell_here"]
theorem uC:FnScope Nso sG (aS uR):={}
abbrev Nsc:List Str:=["_law_number", "_law_rows_here"]
theorem Ke:Nsc.Nodup:=by trivial
theorem Ji {f fr fg:Addr}{fd gr gg:FuncData}(D:Df K mg "_law_some" uR sG f fd) (Dr:Df K mg "_law_draws" kJ pL fr gr) (Dg:Df K mg "_law_go" mh Pg fg gg) (B:Bt mg):aG P w K mg base (aH P w) 2 f fd sG (A4 K):=by
 refine D.F.okN uC (λvs H Q E h=>?_) (λcdv A outer s H vs Q E hr h=>?_)
 ·obtain⟨l,c,rs,n,rfl,_⟩:=h
  rfl
 ·obtain⟨l,c,rs,n,rfl,hl,l0,hrs,n12,k⟩:=h
  refine⟨_,aK (aq (i:=2) uC.nd rfl (Or.inl rfl) (aO Dr (oo Dr B) hr aJ (aA (pv 1) (aA (cT (aA aM (aA aM (aA aM (aA aM (aA aM (aA aM aC))))))) aC))))
   (aK (oZ (i:=3) (N':=Nsc) (fm:=[none,some 0]) rfl uC.nd rfl rfl ⟨rfl,by trivial,by trivial,rfl,rfl,rfl⟩
    (cK (jq oO (pv 2) jp (jo aM))) (λ_ _ _ _=>aU (i:=0) Ke rfl (Or.inl rfl)) (λ_ _ _ _=>cU)
    (λ_ _ _ _=>af (r:=jh K) bN (pv 1) (am eE (pv 0) (bC (r:=λxs H Q=>∃ p ys,xs=[.ref p]/\(aD K H p ys∨bT K H p ys)/\Q (.int ys.length) H) fO (by rfl) B.len d7 (aA (pv 1) aC))) (λ_ _=>rfl)))
   (aK (bJ (aw cF (af bN (pv 2) aM (λ_ _=>rfl)) aM (ao _)) (aL (aX (af bN (pv 3) aM (λ_ _=>rfl)))) bO)
   (aK (aq (i:=4) uC.nd rfl (Or.inl rfl) (aO Dg (rA Dg B) hr aJ (aA (af bN (pv 3) aM (λ_ _=>rfl)) (aA (af bN (pv 3) aM (λ_ _=>rfl)) (aA (af bN (pv 3) aM (λ_ _=>rfl)) aC)))))
   (aL (aX (iB (aw cF (af bN (pv 2) aM (λ_ _=>rfl)) aM (ao _)) (pv 4) (aO Dg (rA Dg B) hr aJ (aA (pv 4) (aA (af bN (pv 3) aM (λ_ _=>rfl)) (aA (af bN (pv 3) aM (λ_ _=>rfl)) aC)))))))))),?_⟩
  refine⟨_,rfl,ay (show 6<=100 by decide),λt' ht'=>?_⟩
  refine⟨_,t',[67,71,73,79,83,3],rfl,aD.of aF,by decide,by decide,λu H1 s1' hu e1=>?_⟩
  have s01:aB H H1:=(aB.new ht').trans' s1'
  obtain⟨d0,d1,d2,d3,d4,d5,ed⟩:∃ d0 d1 d2 d3 d4 d5:Int,(kY c [67,71,73,79,83,3]).map V.int=[.int d0,.int d1,.int d2,.int d3,.int d4,.int d5]:=⟨_,_,_,_,_,_,rfl⟩
  rw[ed] at e1
  refine⟨_,rfl,_,rfl,u,_,rfl,aD.of e1,λv hv=>?_⟩
  have sv:=aB.new (o:=.lst [.int d0,.int d1,.int d2,.int d3,.int d4]) hv
  refine⟨v,rfl,⟨_,aD.of aF⟩,λp hp=>?_⟩
  refine eI (K:=K) (a:=v) (xs:=[.int d0,.int d1,.int d2,.int d3,.int d4]) (λi σ H2=>∃ v0 ys,σ=[v0,some (.ref l)]/\aB (upd H1 v (.lst [.int d0,.int d1,.int d2,.int d3,.int d4])) H2/\ys.length=i/\(∀ y∈ys,y∈rs)/\H2 p=some (.lst (ys.map V.str)))
   ⟨none,[],rfl,aB.new hp,rfl,(λ_ h=>by cases h),aF⟩ (λi σ H2 _ ⟨_,_,_,s2,_⟩=>aD.of (s2 _ _ aF)) ?_ ?_
  ·rintro i y σ H2 hi ⟨v0,ys,rfl,s2,yl,ym,e2⟩
   obtain⟨x,rfl⟩:∃ x:Int,y=.int x:=by
    match i,hi with
    | 0,hi=>cases hi; exact⟨_,rfl⟩
    | 1,hi=>cases hi; exact⟨_,rfl⟩
    | 2,hi=>cases hi; exact⟨_,rfl⟩
    | 3,hi=>cases hi; exact⟨_,rfl⟩
    | 4,hi=>cases hi; exact⟨_,rfl⟩
    | _ + 5,hi=>cases hi
   have il:i < 5:=(cE.mp hi).1
   obtain⟨y,hy,ey⟩:=JF l0 x
   have hl2:=(s01.trans' (sv.trans' s2)).seq hl
   refine eN ⟨_,rfl,_,rfl,_,rfl,l,_,rfl,.inl hl2,_,_,rfl,rfl,(show(0:Int) < _ by rw[aI]; omega),l,_,_,_,rfl,rfl,hl2,ey,_,e2,?_,_,ys ++ [y],rfl,bW hp s2,?_,?_,?_⟩
   ·rw[aI]
    exact cA (show _<=5 by omega) (by decide)
   ·rw[cR,yl]; rfl
   ·intro z hz
    rcases gQ.mp hz with hz | hz
    ·exact ym z hz
    ·rw[bH.mp hz]; exact hy
   ·rw[aF,bQ]; rfl
  ·rintro σ H2 ⟨v0,ys,rfl,s2,yl,ym,e2⟩
   have s02:=s01.trans' (sv.trans' s2)
   have eu:=(sv.trans' s2) _ _ e1
   obtain⟨y0,y1,y2,y3,y4,rfl⟩:∃ y0 y1 y2 y3 y4,ys=[y0,y1,y2,y3,y4]:=by
    match ys,yl with
    | [a,b,c,d,e],_=>exact⟨a,b,c,d,e,rfl⟩
   have b:∀ y∈[y0,y1,y2,y3,y4],Row n y/\b6 rs n y:=λy hy=>⟨hrs y (ym y hy),yX (ym y hy)⟩
   obtain⟨r0,b0⟩:=b y0 (by simp)
   obtain⟨r1,b1⟩:=b y1 (by simp)
   obtain⟨r2,b2⟩:=b y2 (by simp)
   obtain⟨r3,b3⟩:=b y3 (by simp)
   obtain⟨r4,b4⟩:=b y4 (by simp)
   refine⟨_,rfl,u,_,_,_,rfl,rfl,aD.of eu,rfl,rfl,_,rfl,bG (λ_=>?_) (λ_=>?_)⟩
   ·exact⟨_,rfl,p,_,_,_,rfl,rfl,aD.of e2,rfl,k y0 H2 r0 b0 s02⟩
   obtain⟨rf,bf⟩:=CF r0 r1 r2 b0 b1 b2
   refine⟨_,rfl,p,_,_,_,rfl,rfl,aD.of e2,rfl,_,rfl,p,_,_,_,rfl,rfl,aD.of e2,rfl,_,rfl,p,_,_,_,rfl,rfl,aD.of e2,rfl,ch y0,ch y1,ch y2,n,(by rw[<- cu r0.len,<- cu r1.len,<- cu r2.len]; rfl),by omega,?_⟩
   refine⟨_,rfl,u,_,_,_,rfl,rfl,aD.of eu,rfl,rfl,_,rfl,bG (λ_=>?_) (λ_=>?_)⟩
   ·exact⟨_,rfl,k _ H2 rf bf s02⟩
   obtain⟨rg,bg⟩:=CF rf r3 r4 bf b3 b4
   refine⟨_,rfl,_,rfl,p,_,_,_,rfl,rfl,aD.of e2,rfl,_,rfl,p,_,_,_,rfl,rfl,aD.of e2,rfl,ch (tx n (g0 (ch y0) (ch y1) (ch y2))),ch y3,ch y4,n,(by rw[<- cu rf.len,<- cu r3.len,<- cu r4.len]; rfl),by omega,?_⟩
   exact k _ H2 rg bg s02
abbrev uW:Stmt:=ak 97
def jJ (a:Nat->Nat)(x:Int)(i:Nat):Nat:=if hv 3 x i % 3=0 then a i else 45
def GX:Sp:=λvs H Q _=>ig λ(a:Nat->Nat) (n:Nat) (x:Int)=>vs=[.str (tx n a),.int x]/\n<=100/\Q (.str (tx n (jJ a x))) H
abbrev Np:List Str:=["_law_row", "_law_number", "_law_found", "_law_k"]
theorem qP:FnScope Np ["_law_row", "_law_number"] (aS uW):={}
theorem Jm {f:Addr}{fd:FuncData}(D:Df K mg "_law_pattern" uW ["_law_row", "_law_number"] f fd) (B:Bt mg):aG P w K mg base (aH P w) 1 f fd ["_law_row", "_law_number"] GX:=by
 refine D.F.okN qP (λvs H Q E h=>?_) (λcdv A outer s H vs Q E hr h=>?_)
 ·obtain⟨a,n,x,rfl,_⟩:=h
  rfl
 ·obtain⟨a,n,x,rfl,hn,q⟩:=h
  refine⟨_,aK (aq (i:=2) qP.nd rfl (Or.inl rfl) av)
   (aK (dD d8 rfl (gH (by rfl) B.range (aA (bC j4 (by rfl) B.len d7 (aA (pv 0) aC)) aC)) (aU (i:=3) qP.nd rfl (Or.inl rfl))
    (aK (aq (i:=2) qP.nd rfl (Or.inl rfl) (am kQ (pv 2) (iB (aw jt (am eE (pv 1) aM) aM (ao _)) av (af dS (pv 0) (pv 3) (λ_ _=>rfl)))))
    (aL (aq (i:=1) qP.nd rfl (Or.inl rfl) (am kP (pv 1) aM)))))
   (aL (aX (pv 2)))),?_⟩
  refine⟨_,rfl,_,rfl,jD _ _ (by omega),_,rfl,by omega,by rw[ce]; omega,?_⟩
  have en:(((tx n a).length:Nat):Int).toNat=n:=by rw[ce]; omega
  rw[en]
  refine jy (λi σ H2=>∃ v,σ=[some (.str (tx n a)),some (.int (hv 3 x i)),some (.str (tx i (jJ a x))),v]/\H2=H) ⟨none,rfl,rfl⟩ ?_ ?_
  ·rintro i σ H2 hi ⟨v,rfl,rfl⟩
   refine⟨_,rfl,_,rfl,_,_,rfl,rfl,(by show(0:Int) < 3; decide),rfl,_,rfl,?_⟩
   refine bG (λz=>?_) (λz=>?_)
   ·refine⟨_,_,rfl,rfl,mW i _ 45 (by omega),_,rfl,_,_,rfl,rfl,⟨by decide,by decide⟩,some (.int (0 + i)),?_,rfl⟩
    have z:(!decide (V.int (hv 3 x i % 3)=V.int 0))=true:=z
    have e:(45:Nat)=jJ a x i:=by
     refine(aN λy=>?_).symm
     rw[y] at z
     exact absurd z (by decide)
    rw[show tx i (jJ a x) ++ ("-" : Str)=tx (i + 1) (jJ a x) from oF e]
    rfl
   ·have ei:(0:Int) + (i:Int)=(i:Int):=j6 _
    refine⟨_,rfl,_,rfl,_,_,_,rfl,rfl,jD _ _ (by omega),(by rw[ei]; exact qE hi),?_⟩
    refine⟨_,_,rfl,rfl,mW i _ (a i) (by omega),_,rfl,_,_,rfl,rfl,⟨by decide,by decide⟩,some (.int (0 + i)),?_,rfl⟩
    have e:a i=jJ a x i:=by
     refine(aP ?_).symm
     have z2:¬ (!decide (V.int (hv 3 x i % 3)=V.int 0))=true:=z
     rw[iW] at z2
     simpa using z2
    rw[oF e]
    rfl
  ·rintro σ H2 ⟨v,rfl,rfl⟩
   exact⟨_,rfl,q⟩
abbrev uZ:Stmt:=ak 62
end
open Classical in
noncomputable def io (rs:List Str)(n:Nat)(p x:Str)(i:Nat):List Nat:=(List.range i).filter λq=>decide (¬ eM rs n p q (ch x q))
open Classical in
theorem KY {rs:List Str}{n:Nat}{p x:Str}(rx:Row n x):fI rs n p x (bM n (io rs n p x n) x):=by
 have cc:∀ i,i < n->ch (bM n (io rs n p x n) x) i=if i∈io rs n p x n then df (ch x i) else ch x i:=λi hi=>by
  unfold bM
  rw[bE hi]
  rfl
 have mem:∀ i,i < n->(i∈io rs n p x n↔¬ eM rs n p i (ch x i)):=λi hi=>by
  unfold io
  rw[cY,bK,dX]
  exact⟨λh=>h.2,λh=>⟨hi,h⟩⟩
 refine⟨kH rx,λi hi f=>?_,λi hi f=>?_⟩
 ·rw[cc i hi,aN (λw=>(mem i hi).mp w f)]
 ·rw[cc i hi,aP ((mem i hi).mpr f)]
  have b:=rx.bin i hi
  unfold df
  split <;> omega
section
variable {P:Program}{w:World}{K:PySem.W.Frag}{mg:Str->Option Value}{base:Heap}{C fi fa ft fy fm fc:Addr}{gi ga gt gy gm gc:FuncData}
def AC (C:Addr):Sp:=λvs H Q _=>gY λ(t dx kp bt:Addr) (n m:Nat) (rs:List Str) (x p:Str)=>vs=[.ref t,.str x,.str p]/\TabAt C H t dx kp bt n m rs/\Row n x/\b6 rs n x/\dQ n p/\eh rs n p/\1<=n/\n<=12/\∀ z H',fI rs n p x z->aB H H'->Q (.str z) H'
abbrev OB:List Str:=["table", "row", "pattern"]
abbrev sV:List Str:=["table", "row", "pattern"]
theorem Hz:FnScope OB sV (aS uZ):={}
abbrev Ec:List Str:=["question", "sign", "table", "pattern"]
theorem C0:Ec.Nodup:=by trivial
open Classical in
theorem Jr {f fk fp fg fu ff:Addr}{fd gk gp gg gu gf:FuncData}(D:Df K mg "nearest" uZ sV f fd) (Dc:Df K mg "check_ruling" jg dW fk gk) (Gc:aG P w K mg base (aH P w) 7 fk gk dW (lL C)) (Dp:Df K mg "check_pattern" mo fV fp gp) (Gp:aG P w K mg base (aH P w) 4 fp gp fV qN) (Dg:Df K mg "gaps" lU cX fg gg) (Gg:aG P w K mg base (aH P w) 5 fg gg cX (oN C))
  (Du:Df K mg "turned" qV nX fu gu) (Gu:aG P w K mg base (aH P w) 3 fu gu nX (wq K)) (Df':Df K mg "fits" mi jS ff gf) (Gf:aG P w K mg base (aH P w) 4 ff gf jS (qK C)) (T:Tb K mg C fi fa ft fy fm fc gi ga gt gy gm gc) (M:Gm mg):aG P w K mg base (aH P w) 8 f fd sV (AC C):=by
 refine D.F.okN Hz (λvs H Q E h=>?_) (λcdv A outer s H vs Q E hr h=>?_)
 ·obtain⟨t,dx,kp,bt,n,m,rs,x,p,rfl,_⟩:=h
  rfl
 ·obtain⟨t,dx,kp,bt,n,m,rs,x,p,rfl,tab,a1,bx,hp,st,n1,n12,k⟩:=h
  refine⟨_,aK (bd (aO Dc Gc (hr.mono (by decide)) aJ (aA (pv 0) (aA (pv 1) aC))))
   (aK (bd (aO Dp Gp (hr.mono (by decide)) aJ (aA (pv 2) (aA (dY (pv 0) rfl) aC))))
   (aK (bJ (oY (aO Dg Gg (hr.mono (by decide)) aJ (aA (pv 0) (aA (pv 2) aC))) (λ_=>rfl)) (aL hC) bO)
   (aL (aX (aO Du Gu (hr.mono (by decide)) aJ (aA (pv 1) (aA (cS (g:=(eW K 2 (cG (cB 0) (cG (cB 1) eX)))) (N':=Ec) (fm:=[none,none,some 0,some 2]) rfl ⟨rfl,by trivial,by trivial,rfl,rfl,rfl⟩ (og (by rfl) M.enum (aA (pv 1) aC)) (λ_ _ _ _=>(dF rfl (bF (aU (i:=0) C0 rfl (Or.inl rfl)) (bF (aU (i:=1) C0 rfl (Or.inl rfl)) dE)))) (λ_ _ _ _=>(eV (eD (cm (aO Df' Gf (hr.mono (by decide)) aJ (aA (pv 2) (aA (pv 3) (aA (pv 0) (aA (pv 1) aC))))))))) (λ_ _ _ _=>(pv 0))) aC))))))),?_⟩
  refine⟨_,rfl,_,rfl,t,dx,kp,bt,n,m,rs,x,rfl,tab,a1,bx,n1,n12,λH1 s1'=>?_⟩
  have tab1:=tab.mono s1'
  refine⟨_,rfl,_,rfl,t,C,dx,_,_,rfl,tab1.ins,T.cl,T.nQ,rfl,p,n,rfl,by rw[hp.1]; omega,n1,n12,hp,λH2 s2=>?_⟩
  have tab2:=tab1.mono s2
  have s02:=s1'.trans' s2
  refine⟨_,rfl,_,rfl,t,dx,kp,bt,n,m,rs,p,rfl,tab2,hp,n12,λpg H3 hpg a3=>?_⟩
  obtain⟨s3,as,e3,t3⟩:=a3
  have s03:=s02.trans' s3
  have z:=vm st
  rw[z] at t3
  have:as=[]:=mJ.mp t3.1
  subst this
  refine⟨false,.inl ⟨_,aD.of e3,rfl⟩,aW ?_⟩
  have tab3:=tab2.mono s3
  refine⟨_,rfl,_,rfl,x,rfl,λpq hpq=>?_⟩
  refine wF (λi σ H4=>∃ v0 v1,σ=[v0,v1,some (.ref t),some (.str p)]/\aB H3 H4/\H4 pq=some (.lst ((io rs n p x i).map iN))) ⟨none,none,rfl,aB.new hpq,aF⟩ ?_ ?_
  ·rintro i Tp σ H4 hi hTp ⟨v0,v1,rfl,s4,e4⟩
   rw[a1.len] at hi
   have sT:=aB.new (o:=.tup [.int i,sg x i]) hTp
   have sn:io rs n p x (i + 1)=io rs n p x i ++ if eM rs n p i (ch x i) then [] else [i]:=by
    unfold io
    rw[mH,pT]
    congr 1
    by_cases w:eM rs n p i (ch x i)
    ·rw[aP w]
     exact yu (by simpa using w)
    ·rw[aN w]
     exact yt (p:=λq=>decide (¬ eM rs n p q (ch x q))) (bR w)
   have ln:(io rs n p x i).length<=12:=by
    unfold io
    refine b8 (gT _ _) ?_
    rw[dk]
    omega
   refine⟨Tp,_,rfl,bT.of aF,rfl,_,_,rfl,_,_,rfl,rfl,?_⟩
   refine⟨_,rfl,_,rfl,_,rfl,_,rfl,t,dx,kp,bt,n,m,rs,p,i,ch x i,rfl,tab3.mono (s4.trans' sT),hp,n12,hi,a1.bin i hi,λb H5 hb s5=>⟨_,rfl,?_⟩⟩
   have s45:=sT.trans' s5
   by_cases w:eM rs n p i (ch x i)
   ·rw[hb.mpr w]
    refine aW ⟨_,_,rfl,s4.trans' s45,?_⟩
    rw[sn,aP w,gX]
    exact s45 _ _ e4
   ·have:b=false:=by cases b with
     | false=>rfl
     | true=>exact absurd (hb.mp rfl) w
    subst this
    refine ax ⟨_,rfl,_,s45 _ _ e4,?_,_,_,rfl,bW hpq (s4.trans' s45),?_⟩
    ·rw[aI]
     exact cA ln (by decide)
    ·rw[aF,sn,aN w,bQ]
     rfl
  ·rintro σ H4 ⟨v0,v1,rfl,s4,e4⟩
   rw[a1.len] at e4
   exact⟨pq,n,io rs n p x n,x,rfl,a1,n12,aD.of e4,λH5 s5=>k _ H5 (KY a1) (s03.trans' (s4.trans' s5))⟩
end
abbrev ul:Stmt:=ak 30
section
variable {CX:gz}{P:Program}{w:World}{K:PySem.W.Frag}{mg:Str->Option Value}{base:Heap}{k:Nat}{f c:Addr}{qual:Str}{params:Arguments}{body:Expr}{scope:Scope}{cl:List (Str×Addr)}{pm ctv:Value}{N:List Str}{σ:St}{sp:Sp}
def kX (a b c:Nat->Nat)(i:Nat):Nat:=if a i=b i then a i else c i
def HI:Sp:=λvs H Q _=>kF λ(a b c:Nat->Nat) (n:Nat)=>vs=[.str (tx n a),.str (tx n b),.str (tx n c)]/\n<=100/\∀ H',aB H H'->Q (.str (tx n (kX a b c))) H'
abbrev Po:List Str:=["one", "two", "three"]
theorem IL:FnScope Po Po (aS ul):={}
theorem xk:(["a", "b", "c"]:List Str).Nodup:=by trivial
theorem K3 {f:Addr}{fd:FuncData}(D:Df K mg "go" ul Po f fd) (B:Bt mg):aG P w K mg base (aH P w) 1 f fd Po HI:=by
 refine D.F.okN IL (λvs H Q E h=>?_) (λcdv A outer s H vs Q E hr h=>?_)
 ·obtain⟨a,b,c,n,rfl,_⟩:=h
  rfl
 ·obtain⟨a,b,c,n,rfl,hn,q⟩:=h
  refine⟨_,aL (aX (hG wK wJ wI rB av (aA
   (cS (g:=eW K 3 (cG (cB 0) (cG (cB 1) (cG (cB 2) eX)))) (N':=["a", "b", "c"]) (fm:=[none,none,none]) rfl ⟨rfl,by trivial,by trivial,rfl,rfl,rfl⟩
    (JG (by rfl) B.zip (aA (pv 0) (aA (pv 1) (aA (pv 2) aC))))
    (λ_ _ _ _=>dF rfl (bF (aU (i:=0) xk rfl (Or.inl rfl)) (bF (aU (i:=1) xk rfl (Or.inl rfl)) (bF (aU (i:=2) xk rfl (Or.inl rfl)) dE)))) (λ_ _ _ _=>cU)
    (λ_ _ _ _=>iB (aw cF (pv 0) (pv 1) (ao _)) (pv 0) (pv 2))) aC))),?_⟩
  refine⟨rfl,_,rfl,_,rfl,_,rfl,_,_,_,rfl,λp hp=>?_⟩
  refine NM (λi σ H2=>∃ u v y,σ=[u,v,y]/\aB H H2/\H2 p=some (.lst ((List.range i).map λj=>s1 (kX a b c j)))) ⟨none,none,none,rfl,aB.new hp,aF⟩ (by rw[ce,ce]; exact aY _) (by rw[ce,ce]; exact aY _) ?_ ?_
  ·rintro i T σ H2 hi hT ⟨u,v,y,rfl,s2,e2⟩
   rw[ce] at hi
   refine FS aF ?_
   rw[x9 hi,x9 hi,x9 hi]
   have e3:upd H2 T (.tup [s1 (a i),s1 (b i),s1 (c i)]) p=some (.lst ((List.range i).map λj=>s1 (kX a b c j))):=aB.new hT p _ e2
   have s3:aB H (upd H2 T (.tup [s1 (a i),s1 (b i),s1 (c i)])):=s2.trans' (aB.new hT)
   refine⟨_,rfl,_,rfl,rfl,_,rfl,?_⟩
   refine bG (λz=>?_) (λz=>?_)
   ·have z:s1 (a i)=s1 (b i):=cw z
    rw[lW] at z
    refine⟨_,rfl,_,e3,h9 _ _ (by omega),_,_,_,rfl,bW hp s3,?_⟩
    rw[aF,<- iu,show kX a b c i=a i from aP z]
   ·have z:¬ s1 (a i)=s1 (b i):=λy=>z (bR y)
    rw[lW] at z
    refine⟨_,rfl,_,e3,h9 _ _ (by omega),_,_,_,rfl,bW hp s3,?_⟩
    rw[aF,<- iu,show kX a b c i=c i from aN z]
  ·rintro σ H2 ⟨u,v,y,rfl,s2,e2⟩
   rw[ce] at e2
   refine⟨_,p,(List.range n).map λj=>(⟨#[kX a b c j]⟩:Str),rfl,rfl,?_,by decide,?_,?_⟩
   ·rw[gR]
    exact aD.of e2
   ·rw[rL,aI,dk]; omega
   ·rw[qD]
    exact q H2 s2
end
abbrev uc:Stmt:=ak 59
section
variable {P:Program}{w:World}{K:PySem.W.Frag}{mg:Str->Option Value}{base:Heap}{C fi fa ft fy fm fc:Addr}{gi ga gt gy gm gc:FuncData}
def AE (C:Addr):Sp:=λvs H Q _=>F7 λ(t dx kp bt:Addr) (n m:Nat) (rs:List Str) (a b c:Str)=>vs=[.ref t,.str a,.str b,.str c]/\TabAt C H t dx kp bt n m rs/\Row n a/\Row n b/\Row n c/\b6 rs n a/\b6 rs n b/\b6 rs n c/\1<=n/\n<=12/\∀ H',aB H H'->Q (.str (tx n (kX (ch a) (ch b) (ch c)))) H'
abbrev pJ:List Str:=["table", "one", "two", "three"]
theorem I9:FnScope pJ pJ (aS uc):={}
theorem Ju {f fr fg:Addr}{fd gr gg:FuncData}(D:Df K mg "middle" uc pJ f fd) (Dr:Df K mg "check_ruling" jg dW fr gr) (Gr:aG P w K mg base (aH P w) 7 fr gr dW (lL C)) (Dg:Df K mg "go" ul Po fg gg) (B:Bt mg):aG P w K mg base (aH P w) 8 f fd pJ (AE C):=by
 refine D.F.okN I9 (λvs H Q E h=>?_) (λcdv A outer s H vs Q E hr h=>?_)
 ·obtain⟨t,dx,kp,bt,n,m,rs,a,b,c,rfl,_⟩:=h
  rfl
 ·obtain⟨t,dx,kp,bt,n,m,rs,a,b,c,rfl,tab,ha,hb,hc,Ba,Bb,Bc,n1,n12,k⟩:=h
  refine⟨_,aK (bd (aO Dr Gr hr aJ (aA (pv 0) (aA (pv 1) aC))))
   (aK (bd (aO Dr Gr hr aJ (aA (pv 0) (aA (pv 2) aC))))
   (aK (bd (aO Dr Gr hr aJ (aA (pv 0) (aA (pv 3) aC))))
   (aL (aX (aO Dg (K3 Dg B) (hr.mono (by decide)) aJ (aA (pv 1) (aA (pv 2) (aA (pv 3) aC)))))))),?_⟩
  refine⟨_,rfl,_,rfl,t,dx,kp,bt,n,m,rs,a,rfl,tab,ha,Ba,n1,n12,λH1 s1'=>?_⟩
  refine⟨_,rfl,_,rfl,t,dx,kp,bt,n,m,rs,b,rfl,tab.mono s1',hb,Bb,n1,n12,λH2 s2=>?_⟩
  refine⟨_,rfl,_,rfl,t,dx,kp,bt,n,m,rs,c,rfl,tab.mono (s1'.trans' s2),hc,Bc,n1,n12,λH3 s3=>?_⟩
  refine⟨_,rfl,_,rfl,_,rfl,ch a,ch b,ch c,n,?_,by omega,λH4 s4=>k H4 (s1'.trans' (s2.trans' (s3.trans' s4)))⟩
  rw[<- cu ha.len,<- cu hb.len,<- cu hc.len]
  rfl
abbrev uy:Stmt:=ak 60
def jQ (x y:Str)(i:Nat):Nat:=if ch x i=ch y i then ch x i else 45
theorem NI {n:Nat}{x y:Str}(hx:Row n x):dQ n (tx n (jQ x y)):=⟨ce _ _,λi hi=>by
 rw[bE hi]
 unfold jQ
 split
 ·have:=hx.bin i hi; omega
 ·exact .inr (.inr rfl)⟩
def tZ (rs:List Str)(n:Nat)(x y z:Str):Bool:=decide (dfc rs n x z + dfc rs n z y=dfc rs n x y)
theorem NJ {rs:List Str}{n:Nat}{x y:Str}(hrs:∀ x∈rs,Row n x)(rx:Row n x)(bx:b6 rs n x)(ry:Row n y)(bY:b6 rs n y):mL rs (tx n (jQ x y)) n=(jG rs n).filter (tZ rs n x y):=by
 unfold mL
 refine List.filter_congr λz hz=>?_
 obtain⟨rz,bz⟩:=jF.mp hz
 rw[i6,vd]
 unfold tZ
 rw[dX,yU hrs rx ry rz bx bY bz]
 constructor
 ·intro h i hi e
  have:=h i hi
  rw[bE hi] at this
  unfold jQ at this
  rw[aP e] at this
  have b:=rx.bin i hi
  rcases this with w | w
  ·omega
  ·exact w.symm
 ·intro h i hi
  rw[bE hi]
  unfold jQ
  by_cases e:ch x i=ch y i
  ·rw[aP e]
   exact .inr (h i hi e).symm
  ·rw[aN e]
   exact .inl rfl
def AV (C:Addr):Sp:=λvs H Q _=>gY λ(t dx kp bt:Addr) (n m:Nat) (rs:List Str) (x y:Str)=>vs=[.ref t,.str x,.str y]/\TabAt C H t dx kp bt n m rs/\(∀ x∈rs,Row n x)/\Row n x/\b6 rs n x/\Row n y/\b6 rs n y/\1<=n/\n<=12 /\
 ∀ p H',H p=none->aB H H'->H' p=some (.lst (((jG rs n).filter (tZ rs n x y)).map V.str))->((jG rs n).filter (tZ rs n x y)).length<=4096->Q (.ref p) H'
abbrev OS:List Str:=["table", "one", "other"]
abbrev tD:List Str:=["table", "one", "other"]
theorem Ib:FnScope OS tD (aS uy):={}
abbrev Et:List Str:=["a", "b"]
theorem C6:Et.Nodup:=by trivial
theorem KC {f fk fm':Addr}{fd gk gm':FuncData}(D:Df K mg "box" uy tD f fd) (Dc:Df K mg "check_ruling" jg dW fk gk) (Gc:aG P w K mg base (aH P w) 7 fk gk dW (lL C)) (Dm:Df K mg "matching" qb cX fm' gm') (Gm':aG P w K mg base (aH P w) 6 fm' gm' cX (ww C)) (B:Bt mg):aG P w K mg base (aH P w) 8 f fd tD (AV C):=by
 refine D.F.okN Ib (λvs H Q E h=>?_) (λcdv A outer s H vs Q E hr h=>?_)
 ·obtain⟨t,dx,kp,bt,n,m,rs,x,y,rfl,_⟩:=h
  rfl
 ·obtain⟨t,dx,kp,bt,n,m,rs,x,y,rfl,tab,hrs,a1,bx,b1,bY,n1,n12,k⟩:=h
  refine⟨_,aK (bd (aO Dc Gc (hr.mono (by decide)) aJ (aA (pv 0) (aA (pv 1) aC))))
   (aK (bd (aO Dc Gc (hr.mono (by decide)) aJ (aA (pv 0) (aA (pv 2) aC))))
   (aL (aX (aO Dm Gm' (hr.mono (by decide)) aJ (aA (pv 0) (aA (hG wK wJ wI rB av (aA (cS (g:=(eW K 2 (cG (cB 0) (cG (cB 1) eX)))) (N':=Et) (fm:=[none,none]) rfl ⟨rfl,by trivial,by trivial,rfl,rfl,rfl⟩ (JH (by rfl) B.zip (aA (pv 1) (aA (pv 2) aC))) (λ_ _ _ _=>(dF rfl (bF (aU (i:=0) C6 rfl (Or.inl rfl)) (bF (aU (i:=1) C6 rfl (Or.inl rfl)) dE)))) (λ_ _ _ _=>cU) (λ_ _ _ _=>(iB (aw cF (pv 0) (pv 1) (ao _)) (pv 0) av))) aC)) aC)))))),?_⟩
  refine⟨_,rfl,_,rfl,t,dx,kp,bt,n,m,rs,x,rfl,tab,a1,bx,n1,n12,λH1 s1'=>?_⟩
  refine⟨_,rfl,_,rfl,t,dx,kp,bt,n,m,rs,y,rfl,tab.mono s1',b1,bY,n1,n12,λH2 s2=>?_⟩
  have s02:=s1'.trans' s2
  refine⟨_,rfl,rfl,_,rfl,_,rfl,x,y,rfl,λp hp=>?_⟩
  refine NN (λi σ H3=>∃ v0 v1,σ=[v0,v1]/\aB H2 H3/\H3 p=some (.lst ((List.range i).map λj=>s1 (jQ x y j)))) ⟨none,none,rfl,aB.new hp,aF⟩ (by rw[a1.len,b1.len]; exact aY _) ?_ ?_
  ·rintro i T σ H3 hi hT ⟨v0,v1,rfl,s3,e3⟩
   rw[a1.len] at hi
   have sT:=aB.new (o:=.tup [sg x i,sg y i]) hT
   refine lI aF ⟨_,rfl,_,rfl,rfl,_,rfl,bG (λc=>?_) (λc=>?_)⟩
   ·have c:decide (s1 (ch x i)=s1 (ch y i))=true:=c
    rw[eP] at c
    have c:ch x i=ch y i:=by simpa using c
    refine⟨_,rfl,_,sT _ _ e3,h9 _ _ (by omega),_,_,rfl,bW hp (s3.trans' sT),?_⟩
    rw[aF,<- iu]
    show some (HO.lst (_ ++ [s1 (ch x i)]))=some (HO.lst (_ ++ [s1 (jQ x y i)]))
    unfold jQ
    rw[aP c]
   ·have c:¬ decide (s1 (ch x i)=s1 (ch y i))=true:=c
    rw[eP] at c
    have c:¬ ch x i=ch y i:=by simpa using c
    refine⟨_,sT _ _ e3,h9 _ _ (by omega),_,_,rfl,bW hp (s3.trans' sT),?_⟩
    rw[aF,<- iu]
    show some (HO.lst (_ ++ [s1 45]))=some (HO.lst (_ ++ [s1 (jQ x y i)]))
    unfold jQ
    rw[aN c]
  ·rintro σ H3 ⟨v0,v1,rfl,s3,e3⟩
   rw[a1.len] at e3
   refine⟨_,p,(List.range n).map λj=>(⟨#[jQ x y j]⟩:Str),rfl,rfl,?_,by decide,?_,?_⟩
   ·rw[gR]
    exact aD.of e3
   ·rw[rL,aI,dk]; omega
   ·rw[qD]
    have s03:=s02.trans' s3
    refine⟨t,dx,kp,bt,n,m,rs,_,rfl,tab.mono s03,by rw[ce]; omega,n1,n12,NI a1,λq H4 hq s4 e4 l4=>?_⟩
    rw[NJ hrs a1 bx b1 bY] at e4 l4
    exact k q H4 (ox s03 hq) (s03.trans' s4) e4 l4
abbrev qq:Stmt:=ak 44
abbrev um:Stmt:=ak 47
abbrev lV:Stmt:=ak 55
def x6 (C:Addr):Sp:=λvs H Q _=>j7 λ(t dx kp bt:Addr) (n m:Nat) (rs:List Str) (x:Str)=>vs=[.ref t,.str x]/\TabAt C H t dx kp bt n m rs/\dQ n x/\n<=12/\eh rs n x/\rs≠[]/\(∀ y∈rs,Row n y)/\∀ z H',Row n z->b6 rs n z->(∀ i,i < n->¬ ch x i=45->ch z i=ch x i)->aB H H'->Q (.str z) H'
abbrev Nfi:List Str:=["table", "pattern", "told", "question", "sign"]
theorem qR:FnScope Nfi cX (aS lV):={}
def tSg (K:PySem.W.Frag)(C:Addr):TS:=λD σ H=>zB λ(t dx kp bt:Addr) (n m:Nat) (rs:List Str) (x z:Str) (q:Nat) (v4:Option V)=>σ=[some (.ref t),some (.str x),some (.str z),some (.int q),v4]/\TabAt C H t dx kp bt n m rs/\dQ n z/\n<=12/\eh rs n z/\rs≠[]/\(∀ y∈rs,Row n y)/\q < n /\
 ∀ a H',iI a->eM rs n z q a->aB H H'->D.nx [some (.ref t),some (.str x),some (.str z),some (.int q),some (s1 a)] H'
abbrev NT (j:Nat):Stmt:=(dH lV).getD j (.Pass ⟨0,0,0,0⟩)
def MD:Stmt->List Stmt
 | .For _ _ b _ _=>b
 | _=>[]
abbrev NH (j:Nat):Stmt:=(MD (NT 1)).getD j (.Pass ⟨0,0,0,0⟩)
theorem MH {f ff:Addr}{gf:FuncData}{cdv:Value}{A:Around}{outer:List Env}{s:Shared}{H0:Hp}{E0':XK}(Df':Df K mg "fits" mi jS ff gf) (Gf:aG P w K mg base (aH P w) 4 ff gf jS (qK C)) (hr:dJ 4 (A.deeper (envOfC "fill" (aS lV) s.heap.objs.size f cdv))) :
  PS (jO (aH P w) P w K mg base Nfi "fill" (aS lV) f cdv A outer s H0 E0').nox (NH 0) (tSg K C):=by
 refine B6 (aq (i:=4) qR.nd rfl (Or.inl rfl) (iB (cm (aO Df' Gf hr aJ (aA (pv 0) (aA (pv 2) (aA (pv 3) (aA av aC)))))) av av)) ?_
 rintro D σ H ⟨t,dx,kp,bt,n,m,rs,x,z,q,v4,rfl,tab,hz,n12,hS,h0,hrs,hq,k⟩
 refine⟨_,rfl,_,rfl,_,rfl,t,dx,kp,bt,n,m,rs,z,q,110,rfl,tab,hz,n12,hq,.inr rfl,λb H' hb s'=>⟨_,rfl,?_⟩⟩
 cases b with
 | true=>exact ax (k 110 H' (.inr rfl) (hb.mp rfl) s')
 | false=>exact aW (k 121 H' (.inl rfl) (MF hS hrs h0 hq (λw=>by have:=hb.mpr w; cases this)) s')
theorem xa {f fo ff fw:Addr}{fd go gf gw:FuncData}(D:Df K mg "fill" lV cX f fd) (Do:Df K mg "open_places" qX ["pattern"] fo go) (Df':Df K mg "fits" mi jS ff gf) (Gf:aG P w K mg base (aH P w) 4 ff gf jS (qK C)) (Dw:Df K mg "with_answer" oQ nV fw gw) (M:Gm mg):aG P w K mg base (aH P w) 5 f fd cX (x6 C):=by
 refine D.F.okN qR (λvs H Q E h=>?_) (λcdv A outer s H vs Q E hr h=>?_)
 ·obtain⟨t,dx,kp,bt,n,m,rs,x,rfl,_⟩:=h
  rfl
 ·obtain⟨t,dx,kp,bt,n,m,rs,x,rfl,tab,hx,n12,hS,h0,hrs,k⟩:=h
  refine⟨_,aK (aq (i:=2) qR.nd rfl (Or.inl rfl) (pv 1))
   (aK (dD d8 rfl (cK (aO Do (BW Do M) (hr.mono (by decide)) aJ (aA (pv 1) aC))) (aU (i:=3) qR.nd rfl (Or.inl rfl))
    (aK (MH Df' Gf hr) (aL (aq (i:=2) qR.nd rfl (Or.inl rfl) (aO Dw (xW Dw) (hr.mono (by decide)) aJ (aA (pv 2) (aA (pv 3) (aA (pv 4) aC))))))))
   (aL (aX (pv 2)))),?_⟩
  refine⟨_,rfl,_,rfl,x,n,rfl,hx.len,n12,λp H1 hp s1' e1=>⟨p,rfl,⟨_,aD.of e1⟩,?_⟩⟩
  refine jN (K:=K) (a:=p) (xs:=(dZ x n).map vN) (λi σ H2=>∃ v3 v4 z,σ=[some (.ref t),some (.str x),some (.str z),v3,v4]/\aB H1 H2/\dQ n z/\eh rs n z/\(∀ j,j < n->¬ ch x j=45->ch z j=ch x j)/\(∀ j∈(dZ x n).take i,¬ ch z j=45))
   ⟨none,none,x,rfl,aB.refl _,hx,hS,λ_ _ _=>rfl,λj hj=>by simp at hj⟩ (λi σ H2 _ ⟨_,_,_,_,s2,_⟩=>aD.of (s2 _ _ e1)) ?_ ?_
  ·rintro i y σ H2 hi ⟨v3,v4,z,rfl,s2,hz,hSz,agr,fl⟩
   rw[ar] at hi
   cases e:(dZ x n)[i]? with
   | none=>rw[e] at hi; cases hi
   | some q =>
    rw[e] at hi
    cases hi
    obtain⟨hq,xq⟩:=n0.mp (bI e)
    refine⟨t,dx,kp,bt,n,m,rs,x,z,q,v4,rfl,tab.mono (s1'.trans' s2),hz,n12,hSz,h0,hrs,hq,λa H3 ha hf s3=>?_⟩
    refine⟨_,rfl,_,rfl,_,rfl,z,n,q,a,rfl,hz.len,hq,by omega,?_⟩
    refine⟨_,_,tx n (cJ z q a),rfl,s2.trans' s3,⟨ce _ _,λj hj=>?_⟩,Ct hSz hq hf,λj hj hx'=>?_,λj hj=>?_⟩
    ·rw[bE hj]
     unfold cJ
     split
     ·unfold iI at ha; omega
     ·exact hz.sgn j hj
    ·rw[bE hj]
     unfold cJ
     rw[aN (λw=>by rw[w] at hx'; exact hx' xq)]
     exact agr j hj hx'
    ·have jn:j < n:=(n0.mp (tH hj)).1
     rw[bE jn]
     unfold cJ
     split
     ·unfold iI at ha; omega
     ·rename_i ne
      rw[dA,e] at hj
      rcases gQ.mp hj with hj | hj
      ·exact fl j hj
      ·exact absurd (bH.mp hj) ne
  ·rintro σ H2 ⟨v3,v4,z,rfl,s2,hz,hSz,agr,fl⟩
   rw[aI,cW] at fl
   have ne:∀ j,j < n->¬ ch z j=45:=λj hj=>by
    by_cases e:ch x j=45
    ·exact fl j (n0.mpr ⟨hj,e⟩)
    ·rw[agr j hj e]; exact e
   have hR:Row n z:=⟨hz.len,λj hj=>by have:=hz.sgn j hj; have:=ne j hj; omega⟩
   exact⟨_,rfl,k z H2 hR (λq r hq hr=>hSz q r hq hr (ne q hq) (ne r hr)) agr (s1'.trans' s2)⟩
def HQ (C:Addr):Sp:=λvs H Q _=>o6 λ(t dx kp bt:Addr) (n m:Nat) (rs:List Str)=>vs=[.ref t]/\TabAt C H t dx kp bt n m rs/\rs≠[]/\Q .non H
theorem IX:FnScope ["table"] ["table"] (aS qq):={}
theorem Bk {f:Addr}{fd:FuncData}(D:Df K mg "check_filled" qq ["table"] f fd) (T:Tb K mg C fi fa ft fy fm fc gi ga gt gy gm gc) (M:Gm mg):aG P w K mg base (aH P w) 2 f fd ["table"] (HQ C):=by
 refine D.F.okN IX (λvs H Q E h=>?_) (λcdv A outer s H vs Q E hr h=>?_)
 ·obtain⟨t,dx,kp,bt,n,m,rs,rfl,_⟩:=h
  rfl
 ·obtain⟨t,dx,kp,bt,n,m,rs,rfl,tab,h0,k⟩:=h
  refine⟨_,aL (bJ (aw cF (JM (pv 0) T.cl T.mm (Je T M) hr T.bm .nil aJ) aM (ao _)) (aL hC) bO),?_⟩
  refine⟨_,rfl,t,dx,_,rfl,tab.ins,rfl,t,dx,kp,bt,n,m,rs,rfl,tab,rfl,_,rfl,bG (λz=>?_) (λ_=>k)⟩
  have z:decide (V.int (rs.length:Nat)=V.int 0)=true:=z
  rw[iW] at z
  have z:((rs.length:Nat):Int)=0:=by simpa using z
  have:rs.length=0:=by omega
  exact absurd (mJ.mp this) h0
def AQ (C:Addr):Sp:=λvs H Q _=>j7 λ(t dx kp bt:Addr) (n m:Nat) (rs:List Str) (x:Str)=>vs=[.ref t,.str x]/\TabAt C H t dx kp bt n m rs/\dQ n x/\1<=n/\n<=12/\eh rs n x/\rs≠[]/\(∀ y∈rs,Row n y)/\∀ z p H',Row n z->b6 rs n z->(∀ i,i < n->¬ ch x i=45->ch z i=ch x i)->aB H H'->H' p=some (.tup [.str "row",.str z])->Q (.ref p) H'
abbrev Nfl:List Str:=["table", "pattern", "missing", "q", "r"]
theorem An:FnScope Nfl cX (aS um):={}
theorem K5 {f fp fc' fg fl:Addr}{fd gp gc' gg gl:FuncData}(D:Df K mg "filled" um cX f fd) (Dp:Df K mg "check_pattern" mo fV fp gp) (Gp:aG P w K mg base (aH P w) 4 fp gp fV qN) (Dc:Df K mg "check_filled" qq ["table"] fc' gc') (Dg:Df K mg "gaps" lU cX fg gg) (Gg:aG P w K mg base (aH P w) 5 fg gg cX (oN C)) (Dl:Df K mg "fill" lV cX fl gl) (Gl':aG P w K mg base (aH P w) 5 fl gl cX (x6 C)) (T:Tb K mg C fi fa ft fy fm fc gi ga gt gy gm gc) (M:Gm mg):aG P w K mg base (aH P w) 6 f fd cX (AQ C):=by
 refine D.F.okN An (λvs H Q E h=>?_) (λcdv A outer s H vs Q E hr h=>?_)
 ·obtain⟨t,dx,kp,bt,n,m,rs,x,rfl,_⟩:=h
  rfl
 ·obtain⟨t,dx,kp,bt,n,m,rs,x,rfl,tab,hx,n1,n12,hS,h0,hrs,k⟩:=h
  refine⟨_,aK (bd (aO Dp Gp (hr.mono (by decide)) aJ (aA (pv 1) (aA (dY (pv 0) rfl) aC))))
   (aK (bd (aO Dc (Bk Dc T M) (hr.mono (by decide)) aJ (aA (pv 0) aC)))
   (aK (aq (i:=2) An.nd rfl (Or.inl rfl) (aO Dg Gg hr aJ (aA (pv 0) (aA (pv 1) aC))))
   (aK (bJ (oY (pv 2) (λ_=>rfl)) (aK hC (aL hC)) bO)
   (aL (aX (dO (aA av (aA (aO Dl Gl' hr aJ (aA (pv 0) (aA (pv 1) aC))) aC)))))))),?_⟩
  refine⟨_,rfl,_,rfl,t,C,dx,_,_,rfl,tab.ins,T.cl,T.nQ,rfl,x,n,rfl,by rw[hx.len]; omega,n1,n12,hx,λH1 s1'=>?_⟩
  refine⟨_,rfl,t,dx,kp,bt,n,m,rs,rfl,tab.mono s1',h0,?_⟩
  refine⟨_,rfl,_,rfl,t,dx,kp,bt,n,m,rs,x,rfl,tab.mono s1',hx,n12,λp H2 hp a=>?_⟩
  rw[vm hS] at a
  obtain⟨s2,rs',e,t'⟩:=a
  have:rs'=[]:=mJ.mp t'.1
  subst this
  have s12:=s1'.trans' s2
  refine⟨_,rfl,false,.inl ⟨_,aD.of e,rfl⟩,aW ?_⟩
  refine⟨_,rfl,_,rfl,t,dx,kp,bt,n,m,rs,x,rfl,tab.mono s12,hx,n12,hS,h0,hrs,λz H3 hz Bz agr s3=>⟨ay (show 2<=100 by decide),λpt hpt=>?_⟩⟩
  exact k z pt _ hz Bz agr (s12.trans' (s3.trans' (aB.new hpt))) aF
abbrev uq:Stmt:=ak 66
abbrev uM:Stmt:=ak 67
theorem yQ:∀ l:List Nat,(l.map λk:Nat=>(k:Int)).sum=((l.sum:Nat):Int)
 | []=>rfl
 | a :: r=>by rw[eU,List.sum_cons,List.sum_cons,yQ r]; omega
theorem Ca (l:List Nat):l.map (λk=>V.int (k:Nat))=(l.map λk:Nat=>(k:Int)).map V.int:=by rw[gR]; rfl
def zD (H:Hp)(l:Addr)(cs:ii):Prop:=∃ rs:List Addr,H l=some (.lst (rs.map V.ref))/\cH H rs (cs.map ck)
def HK:Sp:=λvs H Q _=>∃ w:Nat,vs=[.int w]/\1<=w/\Q .non H
theorem IP:FnScope ["weight"] ["weight"] (aS uq):={}
theorem K6 {f:Addr}{fd:FuncData}(D:Df K mg "check_weight" uq ["weight"] f fd):aG P w K mg base (aH P w) 1 f fd ["weight"] HK:=by
 refine D.F.okN IP (λvs H Q E h=>?_) (λcdv A outer s H vs Q E hr h=>?_)
 ·obtain⟨x,rfl,_⟩:=h
  rfl
 ·obtain⟨x,rfl,h1,k⟩:=h
  refine⟨_,aL (bJ (aw iQ (pv 0) aM (ao _)) (aL hC) bO),?_⟩
  refine⟨_,rfl,_,_,rfl,rfl,_,rfl,bG (λz=>?_) (λ_=>k)⟩
  have z:(x:Int) < 1:=cw z
  exact absurd z (by omega)
def kG (cs:ii)(q:Nat):List Nat:=(cs.filter λp=>decide (ch p.1 q=121)).map (·.2)
theorem zJ (q:Nat):∀ cs:ii,(kG cs q).sum=lE cs q
 | []=>rfl
 | p :: r=>by
  have e:lE (p :: r) q=(if decide (ch p.1 q=121)=true then p.2 else 0) + lE r q:=FI _ _ _
  have ih:=zJ q r
  rw[e]
  unfold kG at ih ⊢
  rw[List.filter_cons]
  split
  ·rw[eU,List.sum_cons,ih]
  ·rw[ih,Nat.zero_add]
theorem zK (cs:ii)(q:Nat)(p:Str×Nat):kG (cs ++ [p]) q=if ch p.1 q=121 then kG cs q ++ [p.2] else kG cs q:=by
 unfold kG
 rw[pT,bQ]
 by_cases z:ch p.1 q=121
 ·rw[aP z]; simp[z]
 ·rw[aN z]; simp[z]
theorem FH (cs:ii)(q:Nat):(kG cs q).length<=cs.length:=by
 unfold kG
 rw[aI]
 exact gT _ _
def GQ:Sp:=λvs H Q _=>kF λ(l:Addr) (cs:ii) (n q:Nat)=>vs=[.ref l,.int q]/\zD H l cs/\F9 n cs/\q < n/\n<=12/\cs.length<=20/\∀ H',aB H H'->Q (.int (lE cs q:Nat)) H'
abbrev rk:List Str:=["crowd", "question"]
theorem Hk:FnScope rk rk (aS uM):={}
abbrev Nwc:List Str:=["row", "weight", "question"]
theorem Br:Nwc.Nodup:=by trivial
theorem JY {f:Addr}{fd:FuncData}(D:Df K mg "weight_of_yes" uM rk f fd) (B:Bt mg) (M:Gm mg):aG P w K mg base (aH P w) 1 f fd rk GQ:=by
 refine D.F.okN Hk (λvs H Q E h=>?_) (λcdv A outer s H vs Q E hr h=>?_)
 ·obtain⟨l,cs,n,q,rfl,_⟩:=h
  rfl
 ·obtain⟨l,cs,n,q,rfl,⟨rs,el,tl⟩,ok,hq,n12,l20,k⟩:=h
  refine⟨_,aL (aX (bC (E3 rfl) (by rfl) M.sum PyProof.Rows.boot_sum (aA
   (cS (g:=eW K 2 (cG (cB 0) (cG (cB 1) eX))) (N':=Nwc) (fm:=[none,none,some 1]) rfl ⟨rfl,by trivial,by trivial,rfl,rfl,rfl⟩
    (cK (pv 0)) (λ_ _ _ _=>dF rfl (bF (aU (i:=0) Br rfl (Or.inl rfl)) (bF (aU (i:=1) Br rfl (Or.inl rfl)) dE)))
    (λ_ _ _ _=>eV (aw cF (af dS (pv 0) (pv 2) (λ_ _=>rfl)) av (ao _)))
    (λ_ _ _ _=>pv 1)) aC))),?_⟩
  refine⟨_,rfl,l,rfl,⟨_,aD.of el⟩,λp hp=>?_⟩
  have ll:rs.length=cs.length:=by rw[tl.1,aI]
  refine eI (K:=K) (a:=l) (xs:=rs.map V.ref) (λi σ H2=>∃ v0 v1,σ=[v0,v1,some (.int q)]/\aB H H2/\H2 p=some (.lst ((kG (cs.take i) q).map λk:Nat=>V.int (k:Nat))))
   ⟨none,none,rfl,aB.new hp,aF⟩ (λi σ H2 _ ⟨_,_,_,s2,_⟩=>aD.of (s2 _ _ el)) ?_ ?_
  ·rintro i y σ H2 hi ⟨v0,v1,rfl,s2,e2⟩
   obtain⟨r1,k1,rfl,ek,er⟩:=(tl.mono s2).item hi
   rw[ar] at ek
   cases z:cs[i]? with
   | none=>rw[z] at ek; cases ek
   | some pr =>
    rw[z] at ek
    cases ek
    obtain⟨p1,p2⟩:=ok pr (bI z)
    have il:i < cs.length:=(cE.mp z).1
    have tk:cs.take (i + 1)=cs.take i ++ [pr]:=by rw[dA,z]; rfl
    refine⟨r1,_,rfl,.inl (.inl er),rfl,_,_,rfl,_,_,rfl,rfl,?_⟩
    refine⟨_,rfl,_,rfl,_,_,_,rfl,rfl,(by rw[p1.len]; exact ay (by omega)),iz p1 hq,rfl,_,rfl,bG (λc=>?_) (λc=>?_)⟩
    ·have c:decide (s1 (ch pr.1 q)=s1 121)=true:=c
     rw[eP] at c
     have c:ch pr.1 q=121:=by simpa using c
     refine⟨_,rfl,_,e2,?_,_,_,rfl,bW hp s2,?_⟩
     ·rw[aI]
      have:=FH (cs.take i) q
      rw[cZ] at this
      exact cA (show _<=20 by omega) (by decide)
     ·rw[aF,tk,zK,aP c,bQ]
      rfl
    ·have c:¬ decide (s1 (ch pr.1 q)=s1 121)=true:=c
     rw[eP] at c
     have c:¬ ch pr.1 q=121:=by simpa using c
     refine⟨_,_,rfl,s2,?_⟩
     rw[tk,zK,aN c]
     exact e2
  ·rintro σ H2 ⟨v0,v1,rfl,s2,e2⟩
   rw[aI,ll,cW,Ca] at e2
   refine⟨p,_,rfl,aD.of e2,?_⟩
   rw[yQ,zJ]
   exact k H2 s2
abbrev uO:Stmt:=ak 65
abbrev ub:Stmt:=ak 68
def HE:Sp:=λvs H Q _=>iL λ(y n:Nat)=>vs=[.int y,.int n]/\Q (s1 (if n < 2 * y then 121 else if 2 * y < n then 110 else 45)) H
abbrev sI:List Str:=["yes", "whole"]
theorem I0:FnScope sI sI (aS ub):={}
theorem Jt {f:Addr}{fd:FuncData}(D:Df K mg "answer_of_most" ub sI f fd):aG P w K mg base (aH P w) 1 f fd sI HE:=by
 refine D.F.okN I0 (λvs H Q E h=>?_) (λcdv A outer s H vs Q E hr h=>?_)
 ·obtain⟨y,n,rfl,_⟩:=h
  rfl
 ·obtain⟨y,n,rfl,k⟩:=h
  refine⟨_,aK (bJ (aw n5 (am ju aM (pv 0)) (pv 1) (ao _)) (aL (aX av)) bO)
   (aL (aX (iB (aw iQ (am ju aM (pv 0)) (pv 1) (ao _)) av av))),?_⟩
  refine⟨_,rfl,_,_,rfl,rfl,.inl ⟨by decide,by decide⟩,_,rfl,_,_,rfl,rfl,_,rfl,bG (λz=>?_) (λz=>?_)⟩
  ·have z:(n:Int) < 2 * (y:Int):=cw z
   rw[aP (by omega)] at k
   exact k
  ·have z:¬ decide ((n:Int) < 2 * (y:Int))=true:=z
   have z:¬ (n:Int) < 2 * (y:Int):=by simpa using z
   rw[aN (by omega)] at k
   refine⟨_,rfl,_,_,rfl,rfl,.inl ⟨by decide,by decide⟩,_,rfl,_,_,rfl,rfl,_,rfl,bG (λz2=>?_) (λz2=>?_)⟩
   ·have z2:2 * (y:Int) < (n:Int):=cw z2
    rw[aP (by omega)] at k
    exact k
   ·have z2:¬ decide (2 * (y:Int) < (n:Int))=true:=z2
    have z2:¬ 2 * (y:Int) < (n:Int):=by simpa using z2
    rw[aN (by omega)] at k
    exact k
def A0 (C:Addr):Sp:=λvs H Q _=>gY λ(t dx kp bt l:Addr) (n m:Nat) (rs:List Str) (cs:ii)=>vs=[.ref t,.ref l]/\TabAt C H t dx kp bt n m rs/\zD H l cs/\F9 n cs/\(∀ p∈cs,b6 rs n p.1)/\lH cs % 2=1/\1<=n/\n<=12/\cs.length<=20/\∀ H',aB H H'->Q (.str (tx n (q9 cs))) H'
abbrev Nvo:List Str:=["table", "crowd", "row", "weight", "whole"]
abbrev sE:List Str:=["table", "crowd"]
theorem uB:FnScope Nvo sE (aS uO):={}
theorem Bu:(["row", "weight"]:List Str).Nodup:=by trivial
abbrev Nvc:List Str:=["question", "crowd", "whole"]
theorem Ka:Nvc.Nodup:=by trivial
theorem Ja {f fo fr fw fl fy':Addr}{fd go gr gw gl gy':FuncData}(D:Df K mg "voice" uO sE f fd) (Do:Df K mg "answer_of_most" ub sI fo go) (Dr:Df K mg "check_row" mj fT fr gr) (Gr:aG P w K mg base (aH P w) 3 fr gr fT qM) (Dw:Df K mg "check_weight" uq ["weight"] fw gw) (Dl:Df K mg "check_ruling" jg dW fl gl) (Gl':aG P w K mg base (aH P w) 7 fl gl dW (lL C)) (Dy:Df K mg "weight_of_yes" uM rk fy' gy')
  (T:Tb K mg C fi fa ft fy fm fc gi ga gt gy gm gc) (B:Bt mg) (M:Gm mg):aG P w K mg base (aH P w) 8 f fd sE (A0 C):=by
 refine D.F.okN uB (λvs H Q E h=>?_) (λcdv A outer s H vs Q E hr h=>?_)
 ·obtain⟨t,dx,kp,bt,l,n,m,rs,cs,rfl,_⟩:=h
  rfl
 ·obtain⟨t,dx,kp,bt,l,n,m,rs,cs,rfl,tab,⟨as,el,tl⟩,ok,bo,odd,n1,n12,l20,k⟩:=h
  refine⟨_,aK (dD d8 rfl (cK (pv 1)) (dF rfl (bF (aU (i:=2) uB.nd rfl (Or.inl rfl)) (bF (aU (i:=3) uB.nd rfl (Or.inl rfl)) dE)))
    (aK (bd (aO Dr Gr (hr.mono (by decide)) aJ (aA (pv 2) (aA (dY (pv 0) rfl) aC))))
    (aK (bd (aO Dw (K6 Dw) (hr.mono (by decide)) aJ (aA (pv 3) aC)))
    (aL (bd (aO Dl Gl' hr aJ (aA (pv 0) (aA (pv 2) aC))))))))
   (aK (aq (i:=4) uB.nd rfl (Or.inr rfl) (bC (E3 rfl) (by rfl) M.sum PyProof.Rows.boot_sum (aA
    (cS (g:=eW K 2 (cG (cB 0) (cG (cB 1) eX))) (N':=["row", "weight"]) (fm:=[none,none]) rfl ⟨rfl,by trivial,by trivial,rfl,rfl,rfl⟩
     (cK (pv 1)) (λ_ _ _ _=>dF rfl (bF (aU (i:=0) Bu rfl (Or.inl rfl)) (bF (aU (i:=1) Bu rfl (Or.inl rfl)) dE))) (λ_ _ _ _=>cU) (λ_ _ _ _=>pv 1)) aC)))
   (aK (bJ (aw cF (am eE (pv 4) aM) aM (ao _)) (aL hC) bO)
   (aL (aX (hG wK wJ wI rB av (aA
    (cS (N':=Nvc) (fm:=[none,some 1,some 4]) rfl ⟨rfl,by trivial,by trivial,rfl,rfl,rfl⟩
     (gH (by rfl) B.range (aA (dY (pv 0) rfl) aC)) (λ_ _ _ _=>aU (i:=0) Ka rfl (Or.inl rfl)) (λ_ _ _ _=>cU)
     (λ_ _ _ _=>aO Do (Jt Do) (hr.mono (by decide)) aJ (aA (aO Dy (JY Dy B M) (hr.mono (by decide)) aJ (aA (pv 1) (aA (pv 0) aC))) (aA (pv 2) aC)))) aC)))))),?_⟩
  have ll:as.length=cs.length:=by rw[tl.1,aI]
  refine⟨_,rfl,l,rfl,⟨_,aD.of el⟩,jN (K:=K) (a:=l) (xs:=as.map V.ref) (λi σ H2=>∃ v2 v3,σ=[some (.ref t),some (.ref l),v2,v3,none]/\aB H H2) ⟨none,none,rfl,aB.refl H⟩ (λi σ H2 _ ⟨_,_,_,s2⟩=>aD.of (s2 _ _ el)) ?_ ?_⟩
  ·rintro i y σ H2 hi ⟨v2,v3,rfl,s2⟩
   obtain⟨r1,k1,rfl,ek,er⟩:=(tl.mono s2).item hi
   rw[ar] at ek
   cases z:cs[i]? with
   | none=>rw[z] at ek; cases ek
   | some pr =>
    rw[z] at ek
    cases ek
    have mem:=bI z
    obtain⟨p1,p2⟩:=ok pr mem
    refine⟨r1,_,rfl,.inl (.inl er),rfl,_,_,rfl,_,_,rfl,rfl,?_⟩
    refine⟨_,rfl,_,rfl,t,C,dx,_,_,rfl,(tab.mono s2).ins,T.cl,T.nQ,rfl,pr.1,n,rfl,p1,n1,n12,λH3 s3=>?_⟩
    refine⟨_,rfl,pr.2,rfl,p2,?_⟩
    refine⟨_,rfl,_,rfl,t,dx,kp,bt,n,m,rs,pr.1,rfl,tab.mono (s2.trans' s3),p1,bo pr mem,n1,n12,λH4 s4=>?_⟩
    exact⟨_,_,rfl,s2.trans' (s3.trans' s4)⟩
  ·rintro σ H2 ⟨v2,v3,rfl,s2⟩
   have el2:=s2 _ _ el
   have tl2:=tl.mono s2
   refine⟨_,rfl,l,rfl,⟨_,aD.of el2⟩,λp hp=>?_⟩
   refine eI (K:=K) (a:=l) (xs:=as.map V.ref) (λi σ H3=>∃ v0 v1,σ=[v0,v1]/\aB H2 H3/\H3 p=some (.lst (((cs.take i).map (·.2)).map λk:Nat=>V.int (k:Nat))))
    ⟨none,none,rfl,aB.new hp,aF⟩ (λi σ H3 _ ⟨_,_,_,s3,_⟩=>aD.of (s3 _ _ el2)) ?_ ?_
   ·rintro i y σ H3 hi ⟨v0,v1,rfl,s3,e3⟩
    obtain⟨r1,k1,rfl,ek,er⟩:=(tl2.mono s3).item hi
    rw[ar] at ek
    cases z:cs[i]? with
    | none=>rw[z] at ek; cases ek
    | some pr =>
     rw[z] at ek
     cases ek
     refine lI er ⟨_,rfl,_,e3,?_,_,_,rfl,bW hp s3,?_⟩
     ·rw[aI,aI,cZ]
      exact cA (show _<=20 by omega) (by decide)
     ·rw[aF,dA,z,bQ,bQ]
      rfl
   ·rintro σ H3 ⟨v0,v1,rfl,s3,e3⟩
    rw[aI,ll,cW,Ca] at e3
    refine⟨p,_,rfl,aD.of e3,?_⟩
    rw[yQ]
    refine⟨_,rfl,_,_,rfl,rfl,(show(0:Int) < 2 by decide),rfl,_,rfl,bG (λc=>?_) (λ_=>?_)⟩
    ·have c:decide (V.int (((lH cs:Nat):Int) % 2)=V.int 0)=true:=c
     rw[iW] at c
     have c:((lH cs:Nat):Int) % 2=0:=by simpa using c
     exact absurd c (by omega)
    have s23:=s2.trans' s3
    refine⟨rfl,_,rfl,t,C,dx,_,_,rfl,(tab.mono s23).ins,T.cl,T.nQ,rfl,_,rfl,by omega,by omega,λp' hp'=>?_⟩
    have en:((n:Nat):Int).toNat=n:=by omega
    rw[en]
    refine kB (λi σ H4=>∃ v,σ=[v,some (.ref l),some (.int (lH cs:Nat))]/\aB H3 H4/\H4 p'=some (.lst ((List.range i).map λj=>s1 (q9 cs j)))) ⟨none,rfl,aB.new hp',aF⟩ ?_ ?_
    ·rintro i σ H4 hi ⟨v,rfl,s4,e4⟩
     rw[j6]
     refine eN ⟨_,rfl,_,rfl,l,cs,n,i,rfl,⟨as,(s23.trans' s4) _ _ el,tl.mono (s23.trans' s4)⟩,ok,hi,n12,l20,λH6 s6=>?_⟩
     refine⟨_,rfl,lE cs i,lH cs,rfl,_,s6 _ _ e4,h9 _ _ (by omega),_,rfl,bW hp' (s4.trans' s6),?_⟩
     rw[aF,<- iu]
     rfl
    ·rintro σ H4 ⟨v,rfl,s4,e4⟩
     refine⟨_,p',(List.range n).map λj=>(⟨#[q9 cs j]⟩:Str),rfl,rfl,?_,by decide,?_,?_⟩
     ·rw[gR]
      exact aD.of e4
     ·rw[rL,aI,dk]; omega
     ·rw[qD]
      exact k H4 (s23.trans' s4)
abbrev oV:Stmt:=ak 89
abbrev qe:Stmt:=ak 90
abbrev qd:Stmt:=ak 96
def m4 (rs:List Str)(x:Str)(q r:Nat):List (List aQ):=if aT rs q (ch x q) r (ch x r)=0 then [qk q r] else []
def kS (rs:List Str)(x:Str)(n q j:Nat):List (List aQ):=eC (List.range (n - q)) j λd=>m4 rs x q (q + d)
def nA (rs:List Str)(x:Str)(n i:Nat):List (List aQ):=eC (List.range n) i λq=>kS rs x n q (n - q)
theorem LK (rs:List Str)(x:Str)(q r:Nat):(m4 rs x q r).length<=1:=by unfold m4; split <;> simp
theorem CQ (rs:List Str)(x:Str)(n q j:Nat):(kS rs x n q j).length<=j:=by
 have:=mR (l:=List.range (n - q)) (F:=λd=>m4 rs x q (q + d)) (λd=>LK rs x q (q + d)) j
 unfold kS
 omega
theorem LM (rs:List Str)(x:Str)(n i:Nat):(nA rs x n i).length<=i * n:=mR (λq=>b8 (CQ rs x n q (n - q)) (Nat.sub_le n q)) i
theorem CP {rs:List Str}{x:Str}{n q j:Nat}(h:q + j < n):kS rs x n q (j + 1)=kS rs x n q j ++ m4 rs x q (q + j):=oE (o4 (by omega))
theorem LL {rs:List Str}{x:Str}{n i:Nat}(h:i < n):nA rs x n (i + 1)=nA rs x n i ++ kS rs x n i (n - i):=oE (o4 h)
theorem vp {α β:Type}{F G:α->List β}:∀{l:List α},(∀ a∈l,F a=G a)->l.flatMap F=l.flatMap G
 | [],_=>rfl
 | a :: r,h=>by rw[yr,yr,h a eJ,vp λb hb=>h b (dy _ hb)]
theorem Cq {α β:Type}(f:α->β):∀ l:List α,l.flatMap (λq=>[f q])=l.map f
 | []=>rfl
 | a :: r=>by rw[yr,eU,Cq f r]; rfl
theorem tW {α β:Type}(l:List α)(F:α->List β){k:Nat}(h:l.length=k):eC l k F=l.flatMap F:=by unfold eC; rw[<- h,cW]
theorem Nf {n:Nat}{x:Str}(h:Row n x):bB x n=(List.range n).map λq=>(q,ch x q):=by
 unfold bB
 rw[<- Cq (λq=>(q,ch x q)) (List.range n)]
 refine vp λq hq=>?_
 unfold kh
 have:=h.bin q (bK.mp hq)
 rw[aN (by omega)]
theorem LJ {rs:List Str}{n:Nat}{x:Str}(h:Row n x):nA rs x n n=fM rs 0 (bB x n):=by
 unfold nA fM
 rw[tW _ _ dk,tW _ _ rfl,Nf h,List.flatMap_map]
 refine vp λq hq=>?_
 have hq:=bK.mp hq
 unfold kS qw
 rw[tW _ _ dk,tW _ _ rfl,List.flatMap_map]
 have e:List.range n=List.range q ++ (List.range (n - q)).map (q + ·):=by rw[<- List.range_add]; congr 1; omega
 rw[e,pS,List.flatMap_map]
 have z:(List.range q).flatMap (λr=>fZ rs 0 (q,ch x q) (r,ch x r))=[]:=by
  refine List.flatMap_eq_nil_iff.mpr λr hr=>?_
  have hr:=bK.mp hr
  unfold fZ
  rw[aN (λw=>absurd w.1 (by show ¬ q<=r; omega))]
 rw[z,List.nil_append]
 refine vp λd hd=>?_
 unfold m4 fZ
 by_cases c:aT rs q (ch x q) (q + d) (ch x (q + d))=0
 ·rw[aP c,aP ⟨Nat.le_add_right q d,c⟩]
 ·rw[aN c,aN (λw=>c w.2)]
def HV (K:PySem.W.Frag):Sp:=λvs H Q _=>o6 λ(l:Addr) (n:Nat) (rs:List Str) (q a r b:Nat)=>vs=[.ref l,.int q,s1 a,.int r,s1 b]/\aD K H l (rs.map V.str)/\(∀ x∈rs,Row n x)/\n<=12/\q < n/\r < n/\Q (.bl (decide (0 < aT rs q a r b))) H
abbrev Nbe:List Str:=["_law_rows_here", "_law_q", "_law_a", "_law_r", "_law_b", "_law_row"]
abbrev pN:List Str:=["_law_rows_here", "_law_q", "_law_a", "_law_r", "_law_b"]
theorem Aq:FnScope Nbe pN (aS oV):={}
theorem lh {f:Addr}{fd:FuncData}(D:Df K mg "_law_bears" oV pN f fd):aG P w K mg base (aH P w) 1 f fd pN (HV K):=by
 refine D.F.okN Aq (λvs H Q E h=>?_) (λcdv A outer s H vs Q E hr h=>?_)
 ·obtain⟨l,n,rs,q,a,r,b,rfl,_⟩:=h
  rfl
 ·obtain⟨l,n,rs,q,a,r,b,rfl,hl,hx,n12,hq,hr',k⟩:=h
  refine⟨_,aK (dD d8 rfl (cK (pv 0)) (aU (i:=5) Aq.nd rfl (Or.inl rfl))
    (aL (bJ (dw (i9 (aw cF (af dS (pv 5) (pv 1) (λ_ _=>rfl)) (pv 2) (ao _)) (iP (aw cF (af dS (pv 5) (pv 3) (λ_ _=>rfl)) (pv 4) (ao _))))) (aL (aX hJ)) bO)))
   (aL (aX hJ)),?_⟩
  refine⟨_,rfl,l,rfl,⟨_,hl⟩,jN (K:=K) (a:=l) (xs:=rs.map V.str) (λi σ H2=>∃ v,σ=[some (.ref l),some (.int q),some (s1 a),some (.int r),some (s1 b),v]/\H2=H/\∀ x∈rs.take i,¬ (ch x q=a/\ch x r=b))
   ⟨none,rfl,rfl,λx hx=>by simp at hx⟩ (λi σ H2 _ ⟨_,_,z,_⟩=>by rw[z]; exact hl) ?_ ?_⟩
  ·rintro i y σ H2 hi ⟨v,rfl,rfl,no⟩
   rw[ar] at hi
   cases z:rs[i]? with
   | none=>rw[z] at hi; cases hi
   | some x =>
    rw[z] at hi
    cases hi
    have hrow:=hx x (bI z)
    have sz:x.length<=sizeLine:=by rw[hrow.len]; exact ay (by omega)
    have next:¬ (ch x q=a/\ch x r=b)->∃ v,[some (V.ref l),some (V.int q),some (s1 a),some (V.int r),some (s1 b),some (V.str x)]=[some (.ref l),some (.int q),some (s1 a),some (.int r),some (s1 b),v]/\H2=H2/\∀ x∈rs.take (i + 1),¬ (ch x q=a/\ch x r=b):=λhn=>⟨_,rfl,rfl,λx' hx'=>by
     rw[dA,z] at hx'
     rcases gQ.mp hx' with h | h
     ·exact no x' h
     ·rw[bH.mp h]; exact hn⟩
    refine⟨_,rfl,_,rfl,_,_,_,rfl,rfl,sz,iz hrow hq,_,rfl,rfl,_,rfl,bG (λc1=>?_) (λc1=>?_)⟩
    ·have c1:decide (s1 (ch x q)=s1 a)=true:=c1
     rw[eP] at c1
     have c1:ch x q=a:=by simpa using c1
     refine⟨_,rfl,_,rfl,_,_,_,rfl,rfl,sz,iz hrow hr',_,rfl,rfl,_,rfl,bG (λc2=>?_) (λc2=>?_)⟩
     ·have c2:decide (s1 (ch x r)=s1 b)=true:=c2
      rw[eP] at c2
      have c2:ch x r=b:=by simpa using c2
      rw[bR (bn.mpr ⟨x,bI z,c1,c2⟩)] at k
      exact k
     ·have c2:¬ decide (s1 (ch x r)=s1 b)=true:=c2
      rw[eP] at c2
      exact next λw=>c2 (by rw[w.2]; exact bR rfl)
    ·have c1:¬ decide (s1 (ch x q)=s1 a)=true:=c1
     rw[eP] at c1
     exact aW (next λw=>c1 (by rw[w.1]; exact bR rfl))
  ·rintro σ H2 ⟨v,rfl,rfl,no⟩
   rw[aI,cW] at no
   rw[cy (λw=>by obtain⟨x,hx',e⟩:=bn.mp w; exact no x hx' e)] at k
   exact k
def wy (K:PySem.W.Frag):Sp:=λvs H Q _=>kF λ(l:Addr) (n:Nat) (rs:List Str) (x:Str)=>vs=[.ref l,.str x]/\aD K H l (rs.map V.str)/\(∀ x∈rs,Row n x)/\n<=12/\Row n x/\∀ p H',H p=none->Acc H p H' (fM rs 0 (bB x n))->Q (.ref p) H'
abbrev Nll:List Str:=["_law_rows_here", "_law_row", "_law_found", "_law_q", "_law_r"]
abbrev nW:List Str:=["_law_rows_here", "_law_row"]
theorem uH:FnScope Nll nW (aS qe):={}
theorem r9 {f fb:Addr}{fd gb:FuncData}(D:Df K mg "_law_lacks" qe nW f fd) (Db:Df K mg "_law_bears" oV pN fb gb) (B:Bt mg):aG P w K mg base (aH P w) 2 f fd nW (wy K):=by
 refine D.F.okN uH (λvs H Q E h=>?_) (λcdv A outer s H vs Q E hr h=>?_)
 ·obtain⟨l,n,rs,x,rfl,_⟩:=h
  rfl
 ·obtain⟨l,n,rs,x,rfl,hl,hrs,n12,hx,k⟩:=h
  refine⟨_,aK (aq (i:=2) uH.nd rfl (Or.inl rfl) (cT aC))
   (aK (dD d8 rfl (gH (by rfl) B.range (aA (bC j4 (by rfl) B.len d7 (aA (pv 1) aC)) aC)) (aU (i:=3) uH.nd rfl (Or.inl rfl))
    (aL (dD d8 rfl (xQ (by rfl) B.range (aA (pv 3) (aA (bC j4 (by rfl) B.len d7 (aA (pv 1) aC)) aC))) (aU (i:=4) uH.nd rfl (Or.inl rfl))
     (aL (bJ (eD (cm (aO Db (lh Db) hr aJ (aA (pv 0) (aA (pv 3) (aA (af dS (pv 1) (pv 3) (λ_ _=>rfl)) (aA (pv 4) (aA (af dS (pv 1) (pv 4) (λ_ _=>rfl)) aC))))))))
      (aL (bd (hG mD nU nS jL (pv 2) (aA (dO (aA (pv 3) (aA (pv 4) aC))) aC)))) bO)))))
   (aL (aX (pv 2)))),?_⟩
  refine⟨bX _,λp hp=>?_⟩
  have sz:x.length<=sizeLine:=by rw[hx.len]; exact ay (by omega)
  refine⟨_,rfl,_,rfl,sz,_,rfl,by omega,by rw[hx.len]; omega,?_⟩
  have en:((x.length:Nat):Int).toNat=n:=by rw[hx.len]; omega
  rw[en]
  refine jy (λi σ H2=>∃ v3 v4,σ=[some (.ref l),some (.str x),some (.ref p),v3,v4]/\Acc H p H2 (nA rs x n i)) ⟨none,none,rfl,aB.new hp,[],aF,.nil⟩ ?_ ?_
  ·rintro i σ H2 hi ⟨v3,v4,rfl,a2⟩
   rw[j6]
   refine⟨_,rfl,_,rfl,_,rfl,sz,_,_,rfl,⟨by omega,by omega,by omega,by rw[hx.len]; omega⟩,?_⟩
   have en2:(((x.length:Nat):Int) - (i:Int)).toNat=n - i:=by rw[hx.len]; omega
   rw[en2]
   refine jy (λj σ H3=>∃ v4,σ=[some (.ref l),some (.str x),some (.ref p),some (.int i),v4]/\Acc H p H3 (nA rs x n i ++ kS rs x n i j)) ⟨_,rfl,by rw[show kS rs x n i 0=[] from rfl,gX]; exact a2⟩ ?_ ?_
   ·rintro j σ H3 hj ⟨v4,rfl,a3⟩
    have ej:(i:Int) + (j:Int)=((i + j:Nat):Int):=by omega
    rw[ej]
    have ijn:i + j < n:=by omega
    refine⟨_,rfl,_,rfl,_,rfl,_,rfl,_,_,_,rfl,rfl,sz,iz hx hi,_,rfl,_,rfl,_,rfl,_,_,_,rfl,rfl,sz,iz hx ijn,?_⟩
    refine⟨l,n,rs,i,ch x i,i + j,ch x (i + j),rfl,a3.same.seq hl,hrs,n12,hi,ijn,_,rfl,?_⟩
    by_cases c:aT rs i (ch x i) (i + j) (ch x (i + j))=0
    ·have e:m4 rs x i (i + j)=[qk i (i + j)]:=aP c
     rw[cy (show ¬ 0 < aT rs i (ch x i) (i + j) (ch x (i + j)) by omega)]
     obtain⟨rs',e3,t3⟩:=a3.at_
     refine ax ⟨_,rfl,.inl ⟨rfl,_,aD.of e3⟩,_,rfl,_,rfl,ay (show 2<=100 by decide),λT hT=>?_⟩
     obtain⟨ys,ey,yl,a4⟩:=a3.put (k:=qk i (i + j)) hp (aB.refl _) hT
     refine⟨p,_,_,rfl,rfl,ey,?_,_,rfl,?_⟩
     ·have h1:=LM rs x n i
      have h2:=CQ rs x n i j
      rw[yl,cR]
      have h3:i * n<=12 * 12:=tG (by omega) n12
      exact cA (show _<=200 by omega) (by decide)
     ·rw[CP ijn,e,<- pU]
      exact a4
    ·have e:m4 rs x i (i + j)=[]:=aN c
     rw[bR (show 0 < aT rs i (ch x i) (i + j) (ch x (i + j)) by omega)]
     refine aW ⟨_,rfl,?_⟩
     rw[CP ijn,e,gX]
     exact a3
   ·rintro σ H3 ⟨v4,rfl,a3⟩
    refine⟨_,_,rfl,?_⟩
    rw[LL hi]
    exact a3
  ·rintro σ H2 ⟨v3,v4,rfl,a2⟩
   refine⟨_,rfl,k p H2 hp ?_⟩
   rw[<- LJ hx]
   exact a2
abbrev qg:Stmt:=ak 91
def AJ (K:PySem.W.Frag):Sp:=λvs H Q _=>ig λ(l:Addr) (n:Nat) (rs:List Str)=>vs=[.ref l,.int n]/\aD K H l (rs.map V.str)/\(∀ x∈rs,Row n x)/\n<=12/\∀ p H',fF H p H' (cD rs n)->Q (.ref p) H'
abbrev OJ:List Str:=["_law_rows_here", "_law_n", "_law_left", "_law_found", "_law_low", "_law_alike", "_law_apart_here"]
abbrev si:List Str:=["_law_rows_here", "_law_n"]
theorem mY:FnScope OJ si (aS qg):={}
abbrev El:List Str:=["_law_q", "_law_rows_here"]
theorem Ku:El.Nodup:=by trivial
abbrev Ek:List Str:=["_law_q", "_law_rows_here", "_law_low"]
theorem Kt:Ek.Nodup:=by trivial
abbrev Ej:List Str:=["_law_q", "_law_rows_here", "_law_low"]
theorem Ks:Ej.Nodup:=by trivial
abbrev Ei:List Str:=["_law_q", "_law_alike", "_law_apart_here"]
theorem Kr:Ei.Nodup:=by trivial
abbrev Eh:List Str:=["_law_q", "_law_alike", "_law_apart_here"]
theorem Kq:Eh.Nodup:=by trivial
theorem K0 {f fb:Addr}{fd gb:FuncData}(D:Df K mg "_law_bundles" qg si f fd) (Db:Df K mg "_law_bears" oV pN fb gb) (B:Bt mg):aG P w K mg base (aH P w) 2 f fd si (AJ K):=by
 refine D.F.okN mY (λvs H Q E h=>?_) (λcdv A outer s H vs Q E hr h=>?_)
 ·obtain⟨l,n,rs,rfl,_⟩:=h
  rfl
 ·obtain⟨l,n,rs,rfl,hl,hrs,n12,k⟩:=h
  have hu:(A.deeper (envOfC "_law_bundles" (aS qg) s.heap.objs.size f cdv)).units < cLine:=hr.units0
  refine⟨_,aK (oZ (i:=2) (N':=El) (fm:=[none,some 0]) rfl mY.nd rfl rfl ⟨rfl,by trivial,by trivial,rfl,rfl,rfl⟩ (gH (by rfl) B.range (aA (pv 1) aC)) (λ_ _ _ _=>(aU (i:=0) Ku rfl (Or.inl rfl))) (λ_ _ _ _=>(eV (dw (i9 (aw (r:=B0 K) (vQ hu) (pv 1) (cT aC) (ao _)) (i9 (cm (aO Db (lh Db) (hr.mono (by decide)) aJ (aA (pv 1) (aA (pv 0) (aA av (aA (pv 0) (aA av aC))))))) (iP (cm (aO Db (lh Db) (hr.mono (by decide)) aJ (aA (pv 1) (aA (pv 0) (aA av (aA (pv 0) (aA av aC))))))))))))) (λ_ _ _ _=>(pv 0)))
   (aK (aq (i:=3) mY.nd rfl (Or.inl rfl) (cT aC))
   (aK (B5 d8 (aw (vQ hu) (pv 2) (cT aC) (ao _))
   (aK (aq (i:=4) mY.nd rfl (Or.inr rfl) (af bN (pv 2) aM (λ_ _=>rfl)))
   (aK (aq (i:=5) mY.nd rfl (Or.inr rfl) (cS (N':=Ek) (fm:=[none,some 0,some 4]) rfl ⟨rfl,by trivial,by trivial,rfl,rfl,rfl⟩ (cK (pv 2)) (λ_ _ _ _=>(aU (i:=0) Kt rfl (Or.inl rfl))) (λ_ _ _ _=>(eV (dw (i9 (eD (cm (aO Db (lh Db) (hr.mono (by decide)) aJ (aA (pv 1) (aA (pv 2) (aA av (aA (pv 0) (aA av aC)))))))) (iP (eD (cm (aO Db (lh Db) (hr.mono (by decide)) aJ (aA (pv 1) (aA (pv 2) (aA av (aA (pv 0) (aA av aC))))))))))))) (λ_ _ _ _=>(pv 0))))
   (aK (aq (i:=6) mY.nd rfl (Or.inr rfl) (cS (N':=Ej) (fm:=[none,some 0,some 4]) rfl ⟨rfl,by trivial,by trivial,rfl,rfl,rfl⟩ (cK (pv 2)) (λ_ _ _ _=>(aU (i:=0) Ks rfl (Or.inl rfl))) (λ_ _ _ _=>(eV (dw (i9 (eD (cm (aO Db (lh Db) (hr.mono (by decide)) aJ (aA (pv 1) (aA (pv 2) (aA av (aA (pv 0) (aA av aC)))))))) (iP (eD (cm (aO Db (lh Db) (hr.mono (by decide)) aJ (aA (pv 1) (aA (pv 2) (aA av (aA (pv 0) (aA av aC))))))))))))) (λ_ _ _ _=>(pv 0))))
   (aK (bd (hG mD nU nS jL (pv 3) (aA (cS (N':=Ei) (fm:=[none,some 5,some 6]) rfl ⟨rfl,by trivial,by trivial,rfl,rfl,rfl⟩ (cK (pv 2)) (λ_ _ _ _=>(aU (i:=0) Kr rfl (Or.inl rfl))) (λ_ _ _ _=>(eV (dw (jH (aw (r:=jj K false) n4 (pv 0) (pv 1) (by rfl)) (jk (aw (r:=jj K false) n4 (pv 0) (pv 2) (by rfl))))))) (λ_ _ _ _=>(dO (aA (pv 0) (aA (iB (aw (r:=jj K false) n4 (pv 0) (pv 1) (by rfl)) av av) aC))))) aC)))
   (aL (oZ (i:=2) (N':=Eh) (fm:=[none,some 5,some 6]) rfl mY.nd rfl rfl ⟨rfl,by trivial,by trivial,rfl,rfl,rfl⟩ (cK (pv 2)) (λ_ _ _ _=>(aU (i:=0) Kq rfl (Or.inl rfl))) (λ_ _ _ _=>(eV (dw (i9 (aw (r:=jj K true) xU (pv 0) (pv 1) (by rfl)) (iP (aw (r:=jj K true) xU (pv 0) (pv 2) (by rfl))))))) (λ_ _ _ _=>(pv 0)))))))))
   (aL (aX (pv 3))))),?_⟩
  refine⟨_,rfl,_,rfl,by omega,by omega,λp0 hp0=>?_⟩
  have en:((n:Nat):Int).toNat=n:=by omega
  rw[en]
  have tkr:∀ i,i < n->(List.range n)[i]? = some i:=λi hi=>o4 hi
  have opE:∀ q,(decide (rs≠[]) && (decide (0 < aT rs q 121 q 121) && decide (0 < aT rs q 110 q 110)))=cV rs q:=λq=>by
   unfold cV
   by_cases e:rs=[]
   ·subst e; rfl
   ·rw[bR e,Bool.true_and,Bool.and_comm]
  have left0:bV rs n 0=(List.range n).filter (cV rs):=by
   unfold bV
   refine List.filter_congr λr _=>?_
   rw[show(List.range 0).all (λl=>!bA rs l r)=true from rfl,mO]
  refine kB (λi σ H2=>∃ v,σ=[v,some (.ref l)]/\aB H H2/\H2 p0=some (.lst ((((List.range n).take i).filter (cV rs)).map iN))) ⟨none,rfl,aB.new hp0,aF⟩ ?_ ?_
  ·rintro i σ H2 hi ⟨v,rfl,s2,e2⟩
   rw[j6]
   have no:∀{H3:Hp},aB H2 H3->cV rs i=false->∃ v,[some (V.int i),some (V.ref l)]=[v,some (.ref l)]/\aB H H3/\H3 p0=some (.lst ((((List.range n).take (i + 1)).filter (cV rs)).map iN)):=λs3 f=>by
    refine⟨_,rfl,s2.trans' s3,?_⟩
    rw[jz (tkr i hi),f]
    simpa using s3 _ _ e2
   refine⟨_,rfl,bX _,λpe hpe=>?_⟩
   have se:=aB.new (o:=.lst []) hpe
   refine⟨l,pe,_,rfl,rfl,(s2.trans' se).seq hl,aD.of aF,_,rfl,bG (λz0=>?_) (λz0=>?_)⟩
   ·have z0:(!(rs.map V.str).isEmpty)=true:=z0
    have z0:rs≠[]:=λe=>by subst e; cases z0
    refine⟨_,rfl,_,rfl,_,rfl,l,n,rs,i,121,i,121,rfl,(s2.trans' se).seq hl,hrs,n12,hi,hi,_,rfl,?_⟩
    cases c1:decide (0 < aT rs i 121 i 121) with
    | false=>exact aW (aW (no se (by rw[<- opE,c1,wZ,wa])))
    | true =>
     refine ax ⟨_,rfl,_,rfl,_,rfl,l,n,rs,i,110,i,110,rfl,(s2.trans' se).seq hl,hrs,n12,hi,hi,_,rfl,?_⟩
     cases c2:decide (0 < aT rs i 110 i 110) with
     | false=>exact aW (no se (by rw[<- opE,c1,c2]; simp))
     | true =>
      have o:cV rs i=true:=by rw[<- opE,c1,c2,bR z0]; rfl
      refine ax ⟨_,rfl,_,se _ _ e2,?_,_,rfl,bW hp0 (s2.trans' se),?_⟩
      ·rw[aI]
       have:=gT (cV rs) ((List.range n).take i)
       rw[cZ,dk] at this
       exact cA (show _<=12 by omega) (by decide)
      ·rw[aF,jz (tkr i hi),o,aP rfl,bQ]
       rfl
   ·have z0:¬ (!(rs.map V.str).isEmpty)=true:=z0
    have z0:rs=[]:=by
     cases rs with
     | nil=>rfl
     | cons _ _=>exact absurd rfl z0
    exact aW (no se (by rw[z0]; rfl))
  rintro σ H2 ⟨v,rfl,s2,e2⟩
  rw[show(List.range n).take n=List.range n from by rw[kE]; rw[dk]; exact aY _,<- left0] at e2
  refine⟨bX _,λpf hpf=>?_⟩
  have sf:=aB.new (o:=.lst []) hpf
  have pf0:H pf=none:=by
   cases z:H pf with
   | none=>rfl
   | some o=>rw[s2 _ _ z] at hpf; cases hpf
  refine⟨λm σ H3=>∃(k:Nat) (pl:Addr) (v4 v5 v6:Option V),σ=[some (.ref l),some (.int n),some (.ref pl),some (.ref pf),v4,v5,v6]/\k<=n/\pl≠pf/\fF H pf H3 ((aR rs k).map (bq rs n))/\H3 pl=some (.lst ((bV rs n k).map iN))/\m=(bV rs n k).length,⟨_,0,p0,none,none,none,rfl,bX _,(λe=>by rw[<- e,e2] at hpf; cases hpf),⟨s2.trans' sf,pf0,[],aF,rfl,(λ_ h=>by cases h),λ_ _ _ h=>by cases h⟩,sf _ _ e2,rfl⟩,?_⟩
  rintro m σ H3 ⟨k',pl,v4,v5,v6,rfl,kn,npf,b3,e3,rfl⟩
  refine⟨_,rfl,bX _,λpe hpe=>?_⟩
  have se:=aB.new (o:=.lst []) hpe
  refine⟨pl,pe,_,rfl,rfl,se.seq (aD.of e3),aD.of aF,_,rfl,bG (λz0=>?_) (λz0=>?_)⟩
  case refine_2 =>
   have z0:¬ (!((bV rs n k').map iN).isEmpty)=true:=z0
   have z0:bV rs n k'=[]:=by
    cases z:bV rs n k' with
    | nil=>rfl
    | cons _ _=>rw[z] at z0; exact absurd rfl z0
   have b4:=b3.mono se
   rw[<- LP hrs kn z0] at b4
   exact⟨_,rfl,k pf _ b4⟩
  have b4:=b3.mono se
  have e4:=se _ _ e3
  generalize upd H3 pe (.lst [])=H4 at *
  cases z:bV rs n k' with
  | nil=>rw[z] at z0; exact absurd z0 (by decide)
  | cons low cC =>
  obtain⟨ln,kl,ll,ls,lf,lm⟩:=LO hrs kn z
  have L12:(bV rs n k').length<=12:=by
   have:=gT (λr=>cV rs r && (List.range k').all λl=>!bA rs l r) (List.range n)
   rw[dk] at this
   exact b8 this n12
  have L0:(bV rs n k')[0]? = some low:=by rw[z]; rfl
  have dn:∀ c:Nat,(!decide (0 < c))=decide (c=0):=λc=>by
   by_cases e:c=0
   ·rw[e]; rfl
   ·rw[bR (show 0 < c by omega),cy e]; rfl
  rw[<- z]
  refine⟨λσ' H'=>∃(pl:Addr) (v4 v5 v6:Option V),σ'=[some (.ref l),some (.int n),some (.ref pl),some (.ref pf),v4,v5,v6]/\pl≠pf/\fF H pf H' ((aR rs (low + 1)).map (bq rs n))/\H' pl=some (.lst ((bV rs n (low + 1)).map iN)),?_,?_⟩
  ·rintro σ' H' ⟨pl',v4',v5',v6',rfl,np',b',e'⟩
   refine⟨_,?_,low + 1,pl',v4',v5',v6',rfl,ln,np',b',e',rfl⟩
   rw[<- lf]
   refine List.length_filter_lt_length_iff_exists.mpr ⟨low,bI L0,?_⟩
   rw[EN hrs ln]
   simp
  refine⟨_,rfl,pl,_,_,_,rfl,rfl,aD.of e4,(show cL _ ((0:Nat):Int)=some (iN low) from dv (by rw[ar,L0]; rfl)),?_⟩
  refine⟨_,rfl,pl,rfl,⟨_,aD.of ((aB.refl H4) _ _ e4)⟩,λpa hpa=>?_⟩
  refine eI (K:=K) (a:=pl) (xs:=(bV rs n k').map iN) (λi σ H5=>∃ v,σ=[v,some (.ref l),some (.int low)]/\aB H4 H5/\H5 pa=some (.lst ((((bV rs n k').take i).filter (cq rs low)).map iN))) ⟨none,rfl,aB.new hpa,aF⟩ (λi σ H5 _ ⟨_,_,s5,_⟩=>aD.of (s5 _ _ ((aB.refl H4) _ _ e4))) ?_ ?_
  ·rintro i y σ H5 hi ⟨v,rfl,s5,e5⟩
   rw[ar] at hi
   cases zi:(bV rs n k')[i]? with
   | none=>rw[zi] at hi; cases hi
   | some q =>
    rw[zi] at hi
    cases hi
    have qn:=(rH.mp (bI zi)).1
    have hl5:aD K H5 l (rs.map V.str):=(b4.same.trans' ((aB.refl H4).trans' s5)).seq hl
    have no:cq rs low q=false->∃ v,[some (iN q),some (V.ref l),some (V.int low)]=[v,some (.ref l),some (.int low)]/\aB H4 H5/\H5 pa=some (.lst ((((bV rs n k').take (i + 1)).filter (cq rs low)).map iN)):=λf=>by
     refine⟨_,rfl,s5,?_⟩
     rw[jz zi,f]
     simpa using e5
    refine⟨_,rfl,_,rfl,_,rfl,l,n,rs,low,121,q,110,rfl,hl5,hrs,n12,ln,qn,_,rfl,?_⟩
    cases c1:decide (0 < aT rs low 121 q 110) with
    | true=>exact aW (aW (no (by unfold cq; rw[<- dn,<- dn,c1]; simp)))
    | false =>
     refine ax ⟨_,rfl,_,rfl,_,rfl,l,n,rs,low,110,q,121,rfl,hl5,hrs,n12,ln,qn,_,rfl,?_⟩
     cases c2:decide (0 < aT rs low 110 q 121) with
     | true=>exact aW (no (by unfold cq; rw[<- dn,<- dn,c2]; simp))
     | false =>
      have o:cq rs low q=true:=by unfold cq; rw[<- dn,<- dn,c1,c2]; rfl
      refine ax ⟨_,rfl,_,e5,?_,_,rfl,bW hpa s5,?_⟩
      ·rw[aI]
       have h1:=gT (cq rs low) ((bV rs n k').take i)
       rw[cZ] at h1
       exact cA (show _<=12 by omega) (by decide)
      ·rw[aF,jz zi,o,aP rfl,bQ]
       rfl
  rintro σ HA ⟨v,rfl,sA,eA⟩
  rw[aI,cW] at eA
  refine⟨_,rfl,pl,rfl,⟨_,aD.of (sA _ _ e4)⟩,λpb hpb=>?_⟩
  refine eI (K:=K) (a:=pl) (xs:=(bV rs n k').map iN) (λi σ H5=>∃ v,σ=[v,some (.ref l),some (.int low)]/\aB HA H5/\H5 pb=some (.lst ((((bV rs n k').take i).filter (cz rs low)).map iN))) ⟨none,rfl,aB.new hpb,aF⟩ (λi σ H5 _ ⟨_,_,s5,_⟩=>aD.of (s5 _ _ (sA _ _ e4))) ?_ ?_
  ·rintro i y σ H5 hi ⟨v,rfl,s5,e5⟩
   rw[ar] at hi
   cases zi:(bV rs n k')[i]? with
   | none=>rw[zi] at hi; cases hi
   | some q =>
    rw[zi] at hi
    cases hi
    have qn:=(rH.mp (bI zi)).1
    have hl5:aD K H5 l (rs.map V.str):=(b4.same.trans' (sA.trans' s5)).seq hl
    have no:cz rs low q=false->∃ v,[some (iN q),some (V.ref l),some (V.int low)]=[v,some (.ref l),some (.int low)]/\aB HA H5/\H5 pb=some (.lst ((((bV rs n k').take (i + 1)).filter (cz rs low)).map iN)):=λf=>by
     refine⟨_,rfl,s5,?_⟩
     rw[jz zi,f]
     simpa using e5
    refine⟨_,rfl,_,rfl,_,rfl,l,n,rs,low,121,q,121,rfl,hl5,hrs,n12,ln,qn,_,rfl,?_⟩
    cases c1:decide (0 < aT rs low 121 q 121) with
    | true=>exact aW (aW (no (by unfold cz; rw[<- dn,<- dn,c1]; simp)))
    | false =>
     refine ax ⟨_,rfl,_,rfl,_,rfl,l,n,rs,low,110,q,110,rfl,hl5,hrs,n12,ln,qn,_,rfl,?_⟩
     cases c2:decide (0 < aT rs low 110 q 110) with
     | true=>exact aW (no (by unfold cz; rw[<- dn,<- dn,c2]; simp))
     | false =>
      have o:cz rs low q=true:=by unfold cz; rw[<- dn,<- dn,c1,c2]; rfl
      refine ax ⟨_,rfl,_,e5,?_,_,rfl,bW hpb s5,?_⟩
      ·rw[aI]
       have h1:=gT (cz rs low) ((bV rs n k').take i)
       rw[cZ] at h1
       exact cA (show _<=12 by omega) (by decide)
      ·rw[aF,jz zi,o,aP rfl,bQ]
       rfl
  rintro σ HB ⟨v,rfl,sB,eB⟩
  rw[aI,cW] at eB
  have eA:=sB _ _ eA
  have b5:=b4.mono (sA.trans' sB)
  have e5:=(sA.trans' sB) _ _ e4
  obtain⟨bs,ef,bl,_⟩:=b5.at_
  have inA:∀ q,q∈bV rs n k'->eF (iN q) (((bV rs n k').filter (cq rs low)).map iN)=cq rs low q:=λq hq=>by
   rw[y7,i6,dX,cY]
   exact⟨λh=>h.2,λh=>⟨hq,h⟩⟩
  have inB:∀ q,q∈bV rs n k'->eF (iN q) (((bV rs n k').filter (cz rs low)).map iN)=cz rs low q:=λq hq=>by
   rw[y7,i6,dX,cY]
   exact⟨λh=>h.2,λh=>⟨hq,h⟩⟩
  refine⟨_,rfl,.inl ⟨rfl,_,aD.of ef⟩,?_⟩
  refine⟨_,rfl,pl,rfl,⟨_,aD.of e5⟩,λpq hpq=>?_⟩
  refine eI (K:=K) (a:=pl) (xs:=(bV rs n k').map iN) (λi σ H6=>∃ v,σ=[v,some (.ref pa),some (.ref pb)]/\Acc HB pq H6 ((((bV rs n k').take i).filterMap (cg rs low)).map au)) ⟨none,rfl,aB.new hpq,[],aF,.nil⟩ (λi σ H6 _ ⟨_,_,a6⟩=>aD.of (a6.same _ _ e5)) ?_ ?_
  ·rintro i y σ H6 hi ⟨v,rfl,a6⟩
   rw[ar] at hi
   cases zi:(bV rs n k')[i]? with
   | none=>rw[zi] at hi; cases hi
   | some q =>
    rw[zi] at hi
    cases hi
    have qL:=bI zi
    have sn:(((bV rs n k').take (i + 1)).filterMap (cg rs low)).map au=(((bV rs n k').take i).filterMap (cg rs low)).map au ++ ((cg rs low q).toList.map au):=by
     rw[dA,zi,List.filterMap_append,bQ]
     congr 1
    have fl:((((bV rs n k').take i).filterMap (cg rs low)).map au).length<=12:=by
     rw[aI]
     have h1:=List.length_filterMap_le (cg rs low) ((bV rs n k').take i)
     rw[cZ] at h1
     omega
    refine⟨_,rfl,_,rfl,pa,_,rfl,.inl (aD.of (a6.same _ _ eA)),rfl,nE _,_,rfl,?_⟩
    show if eF (iN q) _=true then _ else _
    rw[inA q qL]
    cases c1:cq rs low q with
    | true =>
     have eb:cg rs low q=some (q,121):=by unfold cg dj; rw[c1]; rfl
     refine ax (ax ⟨_,rfl,_,rfl,_,rfl,pa,_,rfl,.inl (aD.of (a6.same _ _ eA)),rfl,nE _,_,rfl,?_⟩)
     show if eF (iN q) _=true then _ else _
     rw[inA q qL,c1]
     refine ax ⟨ay (show 2<=100 by decide),λT hT=>?_⟩
     obtain⟨ys,e1,l1,a7⟩:=a6.put (k:=au (q,121)) hpq (aB.refl _) hT
     refine⟨ys,e1,by rw[l1]; exact cA fl (by decide),_,rfl,?_⟩
     rw[sn,eb]
     exact a7
    | false =>
     refine aW ⟨_,rfl,_,rfl,pb,_,rfl,.inl (aD.of (a6.same _ _ eB)),rfl,nE _,_,rfl,?_⟩
     show if eF (iN q) _=true then _ else _
     rw[inB q qL]
     cases c2:cz rs low q with
     | true =>
      have eb:cg rs low q=some (q,110):=by unfold cg dj; rw[c1,c2]; rfl
      refine ax ⟨_,rfl,_,rfl,_,rfl,pa,_,rfl,.inl (aD.of (a6.same _ _ eA)),rfl,nE _,_,rfl,?_⟩
      show if eF (iN q) _=true then _ else _
      rw[inA q qL,c1]
      refine aW ⟨ay (show 2<=100 by decide),λT hT=>?_⟩
      obtain⟨ys,e1,l1,a7⟩:=a6.put (k:=au (q,110)) hpq (aB.refl _) hT
      refine⟨ys,e1,by rw[l1]; exact cA fl (by decide),_,rfl,?_⟩
      rw[sn,eb]
      exact a7
     | false =>
      have eb:cg rs low q=none:=by unfold cg dj; rw[c1,c2]; rfl
      refine aW ⟨_,rfl,?_⟩
      rw[sn,eb]
      simpa using a6
  rintro σ H6 ⟨v,rfl,a6⟩
  rw[aI,cW,lm] at a6
  obtain⟨bs',ef',bl',b7⟩:=b5.put hpq a6
  refine⟨pf,_,_,rfl,rfl,ef',?_,?_⟩
  ·rw[aI,bl',aI]
   have:=iU rs k'
   exact cA (show _<=12 by omega) (by decide)
  have keep:∀{b:Addr} {xs:List V},b≠pf->HB b=some (.lst xs)->upd H6 pf (.lst (bs'.map V.ref ++ [.ref pq])) b=some (.lst xs):=λnb e=>by rw[aj nb]; exact a6.same _ _ e
  have npa:pa≠pf:=λe=>by
   obtain⟨_,e',_⟩:=b4.at_
   rw[e,e'] at hpa
   cases hpa
  have npb:pb≠pf:=λe=>by
   obtain⟨_,e',_⟩:=(b4.mono sA).at_
   rw[e,e'] at hpb
   cases hpb
  have e7:=keep npf e5
  have A7:=keep npa eA
  have B7:=keep npb eB
  have f7:∃ ys,upd H6 pf (.lst (bs'.map V.ref ++ [.ref pq])) pf=some (.lst ys):=⟨_,aF⟩
  generalize upd H6 pf (.lst (bs'.map V.ref ++ [.ref pq]))=H7 at *
  refine⟨_,rfl,pl,rfl,⟨_,aD.of e7⟩,λpn hpn=>?_⟩
  refine eI (K:=K) (a:=pl) (xs:=(bV rs n k').map iN) (λi σ H8=>∃ v,σ=[v,some (.ref pa),some (.ref pb)]/\aB H7 H8/\H8 pn=some (.lst ((((bV rs n k').take i).filter λq=>!cq rs low q && !cz rs low q).map iN))) ⟨none,rfl,aB.new hpn,aF⟩ (λi σ H8 _ ⟨_,_,s8,_⟩=>aD.of (s8 _ _ e7)) ?_ ?_
  ·rintro i y σ H8 hi ⟨v,rfl,s8,e8⟩
   rw[ar] at hi
   cases zi:(bV rs n k')[i]? with
   | none=>rw[zi] at hi; cases hi
   | some q =>
    rw[zi] at hi
    cases hi
    have qL:=bI zi
    have no:(!cq rs low q && !cz rs low q)=false->∃ v,[some (iN q),some (V.ref pa),some (V.ref pb)]=[v,some (.ref pa),some (.ref pb)]/\aB H7 H8/\H8 pn=some (.lst ((((bV rs n k').take (i + 1)).filter λq=>!cq rs low q && !cz rs low q).map iN)):=λf=>by
     refine⟨_,rfl,s8,?_⟩
     rw[jz zi,f]
     simpa using e8
    refine⟨_,rfl,_,rfl,pa,_,rfl,.inl (aD.of (s8 _ _ A7)),rfl,nE _,_,rfl,?_⟩
    show if (!eF (iN q) _)=true then _ else _
    rw[inA q qL]
    cases c1:cq rs low q with
    | true=>exact aW (aW (no (by rw[c1]; rfl)))
    | false =>
     refine ax ⟨_,rfl,_,rfl,pb,_,rfl,.inl (aD.of (s8 _ _ B7)),rfl,nE _,_,rfl,?_⟩
     show if (!eF (iN q) _)=true then _ else _
     rw[inB q qL]
     cases c2:cz rs low q with
     | true=>exact aW (no (by rw[c1,c2]; rfl))
     | false =>
      refine ax ⟨_,rfl,_,e8,?_,_,rfl,bW hpn s8,?_⟩
      ·rw[aI]
       have h1:=gT (λq=>!cq rs low q && !cz rs low q) ((bV rs n k').take i)
       rw[cZ] at h1
       exact cA (show _<=12 by omega) (by decide)
      ·rw[aF,jz zi,c1,c2,bQ]
       rfl
  rintro σ H8 ⟨v,rfl,s8,e8⟩
  rw[aI,cW,lf] at e8
  refine⟨pn,_,_,_,rfl,λe=>?_,?_,e8⟩
  ·obtain⟨ys,e'⟩:=f7
   rw[e,e'] at hpn
   cases hpn
  ·rw[ls,bQ]
   exact b7.mono s8
abbrev ut:Stmt:=ak 41
abbrev ur:Stmt:=ak 36
abbrev je:Stmt:=ak 98
def kf (rs:List Str)(q r:Nat):List Bool:=[decide (0 < aT rs q 110 r 110),decide (0 < aT rs q 110 r 121),decide (0 < aT rs q 121 r 110),decide (0 < aT rs q 121 r 121)]
def fN (rs:List Str)(q r:Nat):Bool:=(kf rs q r).all id
def ke (rs:List Str)(L:List Nat)(k l:Nat):List (List aQ):=if fN rs (L.getD k 0) (L.getD l 0)=true then [qk k l] else []
def pG (rs:List Str)(L:List Nat)(k j:Nat):List (List aQ):=(List.range j).flatMap λd=>ke rs L k (k + 1 + d)
def fH (rs:List Str)(L:List Nat)(i:Nat):List (List aQ):=(List.range i).flatMap λk=>pG rs L k (L.length - (k + 1))
def iX (rs:List Str)(L:List Nat)(k l:Nat):List (List aQ):=if k < l/\fN rs (L.getD k 0) (L.getD l 0)=true then [qk k l] else []
def kc (rs:List Str)(L:List Nat)(k j:Nat):List (List aQ):=(List.range j).flatMap (iX rs L k)
theorem vq {α:Type}(f:Nat->List α)(j:Nat):(List.range (j + 1)).flatMap f=(List.range j).flatMap f ++ f j:=by rw[mH,pS]; simp
theorem rQ {α:Type}{f:Nat->List α}{m:Nat}(h:∀ k,(f k).length<=m):∀ j,((List.range j).flatMap f).length<=j * m
 | 0=>by simp
 | j + 1=>by
  rw[vq,cR,Nat.succ_mul]
  exact Nat.add_le_add (rQ h j) (h j)
theorem Mu (rs:List Str)(L:List Nat)(k l:Nat):(ke rs L k l).length<=1:=by unfold ke; split <;> simp
theorem Ms (rs:List Str)(L:List Nat)(k l:Nat):(iX rs L k l).length<=1:=by unfold iX; split <;> simp
theorem Mr (rs:List Str)(L:List Nat)(k j:Nat):(pG rs L k j).length<=j:=by
 have:=rQ (f:=λd=>ke rs L k (k + 1 + d)) (λd=>Mu rs L k (k + 1 + d)) j
 unfold pG
 omega
theorem Mp (rs:List Str)(L:List Nat)(k j:Nat):(kc rs L k j).length<=j:=by
 have:=rQ (f:=iX rs L k) (Ms rs L k) j
 unfold kc
 omega
theorem DU (rs:List Str)(L:List Nat)(i:Nat):(fH rs L i).length<=i * L.length:=rQ (λk=>b8 (Mr rs L k _) (Nat.sub_le _ _)) i
theorem Mo {rs:List Str}{L:List Nat}{i:Nat}{k:List aQ}(h:k∈fH rs L i):k.length<=5000:=by
 obtain⟨p,_,h⟩:=eS.mp h
 obtain⟨p',_,h⟩:=eS.mp h
 unfold ke at h
 split at h
 ·rw[bH.mp h]; exact(by decide:(2:Nat)<=5000)
 ·cases h
theorem Mq {rs:List Str}{L:List Nat}{k:Nat}(hk:k < L.length):kc rs L k L.length=pG rs L k (L.length - (k + 1)):=by
 unfold kc pG
 have e:List.range L.length=List.range (k + 1) ++ (List.range (L.length - (k + 1))).map (k + 1 + ·):=by rw[<- List.range_add]; congr 1; omega
 rw[e,pS,List.flatMap_map]
 have z:(List.range (k + 1)).flatMap (iX rs L k)=[]:=by
  refine List.flatMap_eq_nil_iff.mpr λr hr=>?_
  have:=bK.mp hr
  unfold iX
  rw[aN (λw=>by omega)]
 rw[z,List.nil_append]
 congr 1
 funext d
 unfold iX ke
 by_cases c:fN rs (L.getD k 0) (L.getD (k + 1 + d) 0)=true
 ·rw[aP c,aP ⟨by omega,c⟩]
 ·rw[aN c,aN (λw=>c w.2)]
def AS (C:Addr):Sp:=λvs H Q _=>gY λ(t dx kp bt:Addr) (n m:Nat) (rs:List Str) (q r:Nat)=>vs=[.ref t,.int q,.int r]/\TabAt C H t dx kp bt n m rs/\q < n/\r < n/\∀ H',aB H H'->Q (.bl (fN rs q r)) H'
abbrev OP:List Str:=["table", "q", "r"]
abbrev sw:List Str:=["table", "q", "r"]
theorem IT:FnScope OP sw (aS ut):={}
abbrev Er:List Str:=["a", "b", "table", "q", "r"]
theorem C5:Er.Nodup:=by trivial
theorem K8 {f:Addr}{fd:FuncData}(D:Df K mg "cross" ut sw f fd) (T:Tb K mg C fi fa ft fy fm fc gi ga gt gy gm gc) (Gc:aG P w K mg base (aH P w) 3 fc gc kC (lK C)) (B:Bt mg) (M:Gm mg):aG P w K mg base (aH P w) 4 f fd sw (AS C):=by
 refine D.F.okN IT (λvs H Q E h=>?_) (λcdv A outer s H vs Q E hr h=>?_)
 ·obtain⟨t,dx,kp,bt,n,m,rs,q,r,rfl,_⟩:=h
  rfl
 ·obtain⟨t,dx,kp,bt,n,m,rs,q,r,rfl,tab,hq,hr',k⟩:=h
  obtain⟨tk,mS⟩:=M.signs
  refine⟨_,aL (aX (bC (j5 rfl) (by rfl) B.all (by rfl) (aA (vK (N':=Er) (fm:=[none,none,some 0,some 1,some 2]) rfl ⟨rfl,by trivial,by trivial,rfl,rfl,rfl⟩ (lY (kN (v:=.str "ny") (by rfl) mS ⟨tk,rfl⟩)) (λ_ _ _ _=>(aU (i:=0) C5 rfl (Or.inl rfl))) (λ_ _ _ _=>cU) (λ_ _ _ _ _=>(qx rfl (λ_ _ z=>z) (lY (kN (v:=.str "ny") (by rfl) mS ⟨tk,rfl⟩)) (aU (i:=1) C5 rfl (Or.inl rfl)) cU (qy (λ_ _ z=>z) (eO n5 (iA (pv 2) T.cl T.mc Gc (hr.mono (by decide)) T.bc .nil aJ (aA (pv 3) (aA (pv 0) (aA (pv 4) (aA (pv 1) aC))))) aM (ao _)))))) aC))),?_⟩
  refine⟨_,rfl,λp hp=>?_⟩
  have two:("ny" : Str).length=2:=by trivial
  have pos:∀ a b:Nat,decide ((0:Int) < (aT rs q a r b:Nat))=decide (0 < aT rs q a r b):=λa b=>nH.mpr ⟨λh=>by omega,λh=>by omega⟩
  have step:∀{H2 H6:Hp} {i:Nat} {a b:Nat},aB H H2->H2 p=some (.lst (((kf rs q r).take i).map V.bl))->i < 4->(kf rs q r)[i]? = some (decide (0 < aT rs q a r b))->aB H2 H6 ->
    ∃ ys,H6 p=some (.lst ys)/\ys.length < sizeLine/\aB H (upd H6 p (.lst (ys ++ [V.bl (decide ((0:Int) < (aT rs q a r b:Nat)))])))/\upd H6 p (.lst (ys ++ [V.bl (decide ((0:Int) < (aT rs q a r b:Nat)))])) p=some (.lst (((kf rs q r).take (i + 1)).map V.bl)):=by
   intro H2 H6 i a b s2 e2 hi z s6
   refine⟨_,s6 _ _ e2,?_,bW hp (s2.trans' s6),?_⟩
   ·rw[aI,cZ]
    exact cA (show _<=4 by omega) (by decide)
   ·rw[aF,dA,z,bQ,pos]
    rfl
  refine vf (x := "ny") (λi σ H2=>∃ v0 v1,σ=[v0,v1,some (.ref t),some (.int q),some (.int r)]/\aB H H2/\H2 p=some (.lst (((kf rs q r).take (2 * i)).map V.bl))) ⟨none,none,rfl,aB.new hp,aF⟩ ?_ ?_
  ·rintro i σ H2 hi ⟨v0,v1,rfl,s2,e2⟩
   rw[two] at hi
   have hi':i=0∨i=1:=by omega
   refine n8 ⟨_,rfl,?_⟩
   rcases hi' with rfl | rfl
   ·refine vf (x := "ny") (λj σ H3=>∃ v1,σ=[some (s1 110),v1,some (.ref t),some (.int q),some (.int r)]/\aB H H3/\H3 p=some (.lst (((kf rs q r).take (2 * 0 + j)).map V.bl))) ⟨_,rfl,s2,e2⟩ ?_ ?_
    ·rintro j σ H3 hj ⟨v1,rfl,s3,e3⟩
     rw[two] at hj
     have hj':j=0∨j=1:=by omega
     have tab3:=tab.mono s3
     rcases hj' with rfl | rfl
     ·refine n8 ⟨_,rfl,t,dx,_,rfl,tab3.ins,rfl,_,rfl,_,rfl,_,rfl,_,rfl,t,dx,kp,bt,n,m,rs,q,110,r,110,rfl,tab3,hq,hr',.inr rfl,.inr rfl,λH6 s6=>?_⟩
      obtain⟨ys,y1,y2,y3,y4⟩:=step (a:=110) (b:=110) s3 e3 (by decide) rfl s6
      exact⟨_,_,rfl,rfl,ys,y1,y2,_,rfl,y3,y4⟩
     ·refine n8 ⟨_,rfl,t,dx,_,rfl,tab3.ins,rfl,_,rfl,_,rfl,_,rfl,_,rfl,t,dx,kp,bt,n,m,rs,q,110,r,121,rfl,tab3,hq,hr',.inr rfl,.inl rfl,λH6 s6=>?_⟩
      obtain⟨ys,y1,y2,y3,y4⟩:=step (a:=110) (b:=121) s3 e3 (by decide) rfl s6
      exact⟨_,_,rfl,rfl,ys,y1,y2,_,rfl,y3,y4⟩
    ·rintro σ H3 ⟨v1,rfl,s3,e3⟩
     exact⟨_,_,rfl,s3,by rw[two] at e3; exact e3⟩
   ·refine vf (x := "ny") (λj σ H3=>∃ v1,σ=[some (s1 121),v1,some (.ref t),some (.int q),some (.int r)]/\aB H H3/\H3 p=some (.lst (((kf rs q r).take (2 * 1 + j)).map V.bl))) ⟨_,rfl,s2,e2⟩ ?_ ?_
    ·rintro j σ H3 hj ⟨v1,rfl,s3,e3⟩
     rw[two] at hj
     have hj':j=0∨j=1:=by omega
     have tab3:=tab.mono s3
     rcases hj' with rfl | rfl
     ·refine n8 ⟨_,rfl,t,dx,_,rfl,tab3.ins,rfl,_,rfl,_,rfl,_,rfl,_,rfl,t,dx,kp,bt,n,m,rs,q,121,r,110,rfl,tab3,hq,hr',.inl rfl,.inr rfl,λH6 s6=>?_⟩
      obtain⟨ys,y1,y2,y3,y4⟩:=step (a:=121) (b:=110) s3 e3 (by decide) rfl s6
      exact⟨_,_,rfl,rfl,ys,y1,y2,_,rfl,y3,y4⟩
     ·refine n8 ⟨_,rfl,t,dx,_,rfl,tab3.ins,rfl,_,rfl,_,rfl,_,rfl,_,rfl,t,dx,kp,bt,n,m,rs,q,121,r,121,rfl,tab3,hq,hr',.inl rfl,.inl rfl,λH6 s6=>?_⟩
      obtain⟨ys,y1,y2,y3,y4⟩:=step (a:=121) (b:=121) s3 e3 (by decide) rfl s6
      exact⟨_,_,rfl,rfl,ys,y1,y2,_,rfl,y3,y4⟩
    ·rintro σ H3 ⟨v1,rfl,s3,e3⟩
     exact⟨_,_,rfl,s3,by rw[two] at e3; exact e3⟩
  ·rintro σ H2 ⟨v0,v1,rfl,s2,e2⟩
   rw[two] at e2
   exact⟨p,_,rfl,aD.of e2,k H2 s2⟩
def AR (C:Addr):Sp:=λvs H Q _=>o6 λ(t dx kp bt:Addr) (n m:Nat) (rs:List Str)=>vs=[.ref t]/\TabAt C H t dx kp bt n m rs/\(∀ x∈rs,Row n x)/\1<=n/\n<=12/\∀ p H',H p=none->Acc H p H' (fH rs (aR rs n) (aR rs n).length)->Q (.ref p) H'
abbrev OR:List Str:=["table", "lowest"]
abbrev t9:List Str:=["table"]
theorem Ap:FnScope OR t9 (aS ur):={}
abbrev Es:List Str:=["k", "q", "l", "r", "lowest", "table"]
theorem vX:Es.Nodup:=by trivial
theorem CJ {rs:List Str}{n k q:Nat}(h:(aR rs n)[k]? = some q):q < n:=by
 have:=bI h
 unfold aR at this
 rw[cY,bK] at this
 exact this.1
theorem vk {L:List Nat}{k q:Nat}(h:L[k]? = some q):L.getD k 0=q:=by rw[ib,h]; rfl
theorem K7 {f fg fx:Addr}{fd gg gx:FuncData}(D:Df K mg "crossing" ur t9 f fd) (Dg:Df K mg "lowest_questions" oT ["table"] fg gg) (Gg:aG P w K mg base (aH P w) 7 fg gg ["table"] (tu C)) (Dx:Df K mg "cross" ut sw fx gx) (Gx:aG P w K mg base (aH P w) 4 fx gx sw (AS C)) (M:Gm mg):aG P w K mg base (aH P w) 8 f fd t9 (AR C):=by
 refine D.F.okN Ap (λvs H Q E h=>?_) (λcdv A outer s H vs Q E hr h=>?_)
 ·obtain⟨t,dx,kp,bt,n,m,rs,rfl,_⟩:=h
  rfl
 ·obtain⟨t,dx,kp,bt,n,m,rs,rfl,tab,hrs,n1,n12,k⟩:=h
  refine⟨_,aK (aq (i:=1) Ap.nd rfl (Or.inr rfl) (aO Dg Gg (hr.mono (by decide)) aJ (aA (pv 0) aC)))
   (aL (aX (vK (g:=(eW K 2 (cG (cB 0) (cG (cB 1) eX)))) (N':=Es) (fm:=[none,none,none,none,some 1,some 0]) rfl ⟨rfl,by trivial,by trivial,rfl,rfl,rfl⟩ (oa (by rfl) M.enum (aA (pv 1) aC)) (λ_ _ _ _=>(dF rfl (bF (aU (i:=0) vX rfl (Or.inl rfl)) (bF (aU (i:=1) vX rfl (Or.inl rfl)) dE)))) (λ_ _ _ _=>cU) (λ_ _ _ _ _=>(qx (wi:=Cf K (h8 (fJ 4) jC)) (g:=(eW K 2 (cG (cB 2) (cG (cB 3) eX)))) rfl (λ_ _ z=>z) (oa (by rfl) M.enum (aA (pv 4) aC)) (dF rfl (bF (aU (i:=2) vX rfl (Or.inl rfl)) (bF (aU (i:=3) vX rfl (Or.inl rfl)) dE))) (eV (dw (i9 (aw iQ (pv 0) (pv 2) (ao _)) (iP (cm (aO Dx Gx (hr.mono (by decide)) aJ (aA (pv 5) (aA (pv 1) (aA (pv 3) aC))))))))) (qy (λ_ _ z=>z) (dO (aA (pv 0) (aA (pv 2) aC))))))))),?_⟩
  refine⟨_,rfl,t,dx,kp,bt,n,m,rs,rfl,tab,hrs,n1,n12,λlw H1 hlw s1' e1=>?_⟩
  refine⟨_,rfl,lw,rfl,⟨_,aD.of e1⟩,λp hp=>?_⟩
  have L12:(aR rs n).length<=12:=b8 (iU rs n) n12
  refine xu (K:=K) (a:=lw) (xs:=(aR rs n).map iN) (λi σ H2=>∃ v0 v1 v2 v3,σ=[v0,v1,v2,v3,some (.ref lw),some (.ref t)]/\Acc H1 p H2 (fH rs (aR rs n) i)) ⟨none,none,none,none,rfl,aB.new hp,[],aF,.nil⟩ (λi σ H2 _ ⟨_,_,_,_,_,a2⟩=>aD.of (a2.same _ _ e1)) ?_ ?_
  ·rintro i y T1 σ H2 hi hT1 ⟨v0,v1,v2,v3,rfl,a2⟩
   rw[ar] at hi
   cases zi:(aR rs n)[i]? with
   | none=>rw[zi] at hi; cases hi
   | some q =>
    rw[zi] at hi
    cases hi
    have il:=(cE.mp zi).1
    have a2:=a2.mono (aB.new (o:=.tup [.int i,iN q]) hT1)
    refine xt (bT.of aF) ?_
    generalize upd H2 T1 (.tup [.int i,iN q])=H2' at *
    refine⟨_,rfl,lw,rfl,⟨_,aD.of (a2.same _ _ e1)⟩,?_⟩
    refine xu (K:=K) (a:=lw) (xs:=(aR rs n).map iN) (λj σ H3=>∃ v2 v3,σ=[some (.int i),some (iN q),v2,v3,some (.ref lw),some (.ref t)]/\Acc H1 p H3 (fH rs (aR rs n) i ++ kc rs (aR rs n) i j)) ⟨_,_,rfl,by rw[show kc rs (aR rs n) i 0=[] from rfl,gX]; exact a2⟩ (λi σ H3 _ ⟨_,_,_,a3⟩=>aD.of (a3.same _ _ e1)) ?_ ?_
    ·rintro j y T2 σ H3 hj hT2 ⟨v2,v3,rfl,a3⟩
     rw[ar] at hj
     cases zj:(aR rs n)[j]? with
     | none=>rw[zj] at hj; cases hj
     | some r =>
      rw[zj] at hj
      cases hj
      have a3:=a3.mono (aB.new (o:=.tup [.int j,iN r]) hT2)
      have sn:fH rs (aR rs n) i ++ kc rs (aR rs n) i (j + 1)=(fH rs (aR rs n) i ++ kc rs (aR rs n) i j) ++ iX rs (aR rs n) i j:=by
       rw[pU]
       congr 1
       exact vq _ _
      refine⟨T2,_,rfl,bT.of aF,rfl,_,_,rfl,_,_,rfl,rfl,?_⟩
      generalize upd H3 T2 (.tup [.int j,iN r])=H3' at *
      have no:∀{H6:Hp},aB H3' H6->iX rs (aR rs n) i j=[]->∃ v2 v3,[some (V.int i),some (iN q),some (V.int j),some (iN r),some (V.ref lw),some (V.ref t)]=[some (.int i),some (iN q),v2,v3,some (.ref lw),some (.ref t)]/\Acc H1 p H6 (fH rs (aR rs n) i ++ kc rs (aR rs n) i (j + 1)):=λs6 e=>by
       refine⟨_,_,rfl,?_⟩
       rw[sn,e,gX]
       exact a3.mono s6
      refine⟨_,rfl,_,rfl,_,_,rfl,rfl,_,rfl,bG (λc=>?_) (λc=>?_)⟩
      ·have c:(i:Int) < j:=cw c
       refine⟨_,rfl,_,rfl,_,rfl,t,dx,kp,bt,n,m,rs,q,r,rfl,tab.mono (s1'.trans' a3.same),CJ zi,CJ zj,λH6 s6=>⟨_,rfl,?_⟩⟩
       cases z:fN rs q r with
       | false=>exact aW (no s6 (by unfold iX; rw[vk zi,vk zj,z,aN (λw=>by cases w.2)]))
       | true =>
        have e:iX rs (aR rs n) i j=[qk i j]:=by unfold iX; rw[vk zi,vk zj,z,aP ⟨by omega,rfl⟩]
        refine ax ⟨_,rfl,_,rfl,ay (show 2<=100 by decide),λT3 hT3=>?_⟩
        obtain⟨ys,y1,y2,a4⟩:=a3.put (k:=qk i j) hp s6 hT3
        refine⟨ys,y1,?_,_,_,rfl,?_⟩
        ·have h1:=DU rs (aR rs n) i
         have h2:=Mp rs (aR rs n) i j
         have jl:=(cE.mp zj).1
         have h3:i * (aR rs n).length<=12 * 12:=tG (by omega) L12
         rw[y2,cR]
         exact cA (show _<=200 by omega) (by decide)
        ·rw[sn,e]
         exact a4
      ·have c:¬ (i:Int) < j:=λw=>c (bR w)
       exact aW (no (aB.refl _) (by unfold iX; rw[aN (λw=>by omega)]))
    ·rintro σ H3 ⟨v2,v3,rfl,a3⟩
     refine⟨_,_,_,_,rfl,?_⟩
     rw[aI,Mq il] at a3
     have e:fH rs (aR rs n) (i + 1)=fH rs (aR rs n) i ++ pG rs (aR rs n) i ((aR rs n).length - (i + 1)):=vq _ _
     rw[e]
     exact a3
  ·rintro σ H2 ⟨v0,v1,v2,v3,rfl,a2⟩
   rw[aI] at a2
   refine k p H2 ?_ (a2.back s1')
   cases z:H p with
   | none=>rfl
   | some o=>rw[s1' _ _ z] at hp; cases hp
def fv (rs:List Str)(q r:Nat):List Bool:=[decide (0 < aT rs q 121 r 121),decide (0 < aT rs q 121 r 110),decide (0 < aT rs q 110 r 121),decide (0 < aT rs q 110 r 110)]
theorem M9 (rs:List Str)(q r:Nat):(fv rs q r).all id=fN rs q r:=by
 unfold fv fN kf
 cases decide (0 < aT rs q 121 r 121) <;> cases decide (0 < aT rs q 121 r 110) <;> cases decide (0 < aT rs q 110 r 121) <;> cases decide (0 < aT rs q 110 r 110) <;> rfl
def wG:List Stmt->Expr
 | .Assign _ e _ :: _=>e
 | _=>.Constant .none 0 ⟨0,0,0,0⟩
def HZ:List Stmt->Stmt
 | _ :: s :: _=>s
 | _=>.Pass ⟨0,0,0,0⟩
@[irreducible] def w5:Expr:=(rF (wG (dH je))).getD 0 (.Constant .none 0 ⟨0,0,0,0⟩)
@[irreducible] def w4:Expr:=(rF (wG (dH je))).getD 1 (.Constant .none 0 ⟨0,0,0,0⟩)
@[irreducible] def vz:Expr:=(rF (wG (dH je))).getD 2 (.Constant .none 0 ⟨0,0,0,0⟩)
@[irreducible] def vy:Expr:=(rF (wG (dH je))).getD 3 (.Constant .none 0 ⟨0,0,0,0⟩)
abbrev GP:Stmt:=HZ (dH je)
theorem LQ:∃ p1 p2 p3,dH je=[.Assign [.Name "_law_four" p1] (.List [w5,w4,vz,vy] p2) p3,GP]:=⟨_,_,_,by delta w5 w4 vz vy; rfl⟩
theorem GL:∃ p1 p2 p3,w5=.Tuple [.Constant (.str "y") 0 p1,.Constant (.str "y") 0 p2] 0 p3:=⟨_,_,_,by delta w5; rfl⟩
theorem GK:∃ p1 p2 p3,w4=.Tuple [.Constant (.str "y") 0 p1,.Constant (.str "n") 0 p2] 0 p3:=⟨_,_,_,by delta w4; rfl⟩
theorem GJ:∃ p1 p2 p3,vz=.Tuple [.Constant (.str "n") 0 p1,.Constant (.str "y") 0 p2] 0 p3:=⟨_,_,_,by delta vz; rfl⟩
theorem GI:∃ p1 p2 p3,vy=.Tuple [.Constant (.str "n") 0 p1,.Constant (.str "n") 0 p2] 0 p3:=⟨_,_,_,by delta vy; rfl⟩
theorem vM {X:Cx}{e:Expr}{es:List Expr}{t:TA}{x y:Str}(h:∃ p1 p2 p3,e=.Tuple [.Constant (.str x) 0 p1,.Constant (.str y) 0 p2] 0 p3)(r:PA X es t):PA X (e :: es) (h8 (zd (h8 (tC (.str x)) (h8 (tC (.str y)) jC))) t):=by
 obtain⟨p1,p2,p3,rfl⟩:=h
 exact aA (dO (aA av (aA av aC))) r
def AI (K:PySem.W.Frag):Sp:=λvs H Q _=>pZ λ(l:Addr) (n:Nat) (rs:List Str) (q r:Nat)=>vs=[.ref l,.int q,.int r]/\aD K H l (rs.map V.str)/\(∀ x∈rs,Row n x)/\n<=12/\q < n/\r < n/\∀ H',aB H H'->Q (.bl (fN rs q r)) H'
abbrev OI:List Str:=["_law_rows_here", "_law_q", "_law_r", "_law_four"]
abbrev sZ:List Str:=["_law_rows_here", "_law_q", "_law_r"]
theorem Al:FnScope OI sZ (aS je):={}
abbrev Eg:List Str:=["_law_a", "_law_b", "_law_rows_here", "_law_q", "_law_r"]
theorem C2:Eg.Nodup:=by trivial
theorem Jz {f fb:Addr}{fd gb:FuncData}(D:Df K mg "_law_cross" je sZ f fd) (Db:Df K mg "_law_bears" oV pN fb gb) (B:Bt mg):aG P w K mg base (aH P w) 2 f fd sZ (AI K):=by
 refine D.F.okN Al (λvs H Q E h=>?_) (λcdv A outer s H vs Q E hr h=>?_)
 ·obtain⟨l,n,rs,q,r,rfl,_⟩:=h
  rfl
 ·obtain⟨l,n,rs,q,r,rfl,hl,hrs,n12,hq,hr',k⟩:=h
  obtain⟨q1,q2,q3,eb⟩:=LQ
  rw[eb]
  refine⟨_,aK (aq (i:=3) Al.nd rfl (Or.inl rfl) (cT (vM GL (vM GK (vM GJ (vM GI aC))))))
   (aL (aX (bC (j5 rfl) (by rfl) B.all (by rfl) (aA (cS (g:=(eW K 2 (cG (cB 0) (cG (cB 1) eX)))) (N':=Eg) (fm:=[none,none,some 0,some 1,some 2]) rfl ⟨rfl,by trivial,by trivial,rfl,rfl,rfl⟩ (cK (pv 3)) (λ_ _ _ _=>(dF rfl (bF (aU (i:=0) C2 rfl (Or.inl rfl)) (bF (aU (i:=1) C2 rfl (Or.inl rfl)) dE)))) (λ_ _ _ _=>cU) (λ_ _ _ _=>(aO Db (lh Db) (hr.mono (by decide)) aJ (aA (pv 2) (aA (pv 3) (aA (pv 0) (aA (pv 4) (aA (pv 1) aC)))))))) aC)))),?_⟩
  refine⟨ay (show 2<=100 by decide),λT1 hT1=>⟨ay (show 2<=100 by decide),λT2 hT2=>⟨ay (show 2<=100 by decide),λT3 hT3=>⟨ay (show 2<=100 by decide),λT4 hT4=>⟨ay (show 4<=100 by decide),λg hg=>?_⟩⟩⟩⟩⟩
  have s1':=aB.new (o:=.tup [.str "y",.str "y"]) hT1
  have s2:=aB.new (o:=.tup [.str "y",.str "n"]) hT2
  have s3:=aB.new (o:=.tup [.str "n",.str "y"]) hT3
  have s4:=aB.new (o:=.tup [.str "n",.str "n"]) hT4
  have s5:=aB.new (o:=.lst [.ref T1,.ref T2,.ref T3,.ref T4]) hg
  have e1:=(s2.trans' (s3.trans' (s4.trans' s5))) _ _ aF
  have e2:=(s3.trans' (s4.trans' s5)) _ _ aF
  have e3:=(s4.trans' s5) _ _ aF
  have e4:=s5 _ _ aF
  have e5:upd (upd (upd (upd (upd H T1 (.tup [.str "y",.str "y"])) T2 (.tup [.str "y",.str "n"])) T3 (.tup [.str "n",.str "y"])) T4 (.tup [.str "n",.str "n"])) g (.lst [.ref T1,.ref T2,.ref T3,.ref T4]) g=some (.lst [.ref T1,.ref T2,.ref T3,.ref T4]):=aF
  have s05:=s1'.trans' (s2.trans' (s3.trans' (s4.trans' s5)))
  generalize upd (upd (upd (upd (upd H T1 (.tup [.str "y",.str "y"])) T2 (.tup [.str "y",.str "n"])) T3 (.tup [.str "n",.str "y"])) T4 (.tup [.str "n",.str "n"])) g (.lst [.ref T1,.ref T2,.ref T3,.ref T4])=H5 at *
  refine⟨_,rfl,g,rfl,⟨_,aD.of e5⟩,λp hp=>?_⟩
  have step:∀{H2:Hp} {i:Nat} {b:Bool},aB H5 H2->H2 p=some (.lst (((fv rs q r).take i).map V.bl))->i < 4->(fv rs q r)[i]? = some b ->
    ∃ ys,H2 p=some (.lst ys)/\ys.length < sizeLine/\aB H5 (upd H2 p (.lst (ys ++ [V.bl b])))/\upd H2 p (.lst (ys ++ [V.bl b])) p=some (.lst (((fv rs q r).take (i + 1)).map V.bl)):=by
   intro H2 i b s2 e2 hi z
   refine⟨_,e2,?_,bW hp s2,?_⟩
   ·rw[aI,cZ]
    exact cA (show _<=4 by omega) (by decide)
   ·rw[aF,dA,z,bQ]
    rfl
  refine eI (K:=K) (a:=g) (xs:=[.ref T1,.ref T2,.ref T3,.ref T4]) (λi σ H2=>∃ v0 v1,σ=[v0,v1,some (.ref l),some (.int q),some (.int r)]/\aB H5 H2/\H2 p=some (.lst (((fv rs q r).take i).map V.bl))) ⟨none,none,rfl,aB.new hp,aF⟩ (λi σ H2 _ ⟨_,_,_,s2,_⟩=>aD.of (s2 _ _ e5)) ?_ ?_
  ·rintro i y σ H2 hi ⟨v0,v1,rfl,s2,e2'⟩
   have hl2:aD K H2 l (rs.map V.str):=(s05.trans' s2).seq hl
   have i4:i < 4:=(cE.mp hi).1
   have i4':i=0∨i=1∨i=2∨i=3:=by omega
   rcases i4' with rfl | rfl | rfl | rfl
   ·cases hi
    refine lI (s2 _ _ e1) ⟨_,rfl,_,rfl,_,rfl,_,rfl,_,rfl,l,n,rs,q,121,r,121,rfl,hl2,hrs,n12,hq,hr',?_⟩
    obtain⟨ys,y1,y2,y3,y4⟩:=step s2 e2' (by decide) rfl
    exact⟨ys,y1,y2,_,_,rfl,y3,y4⟩
   ·cases hi
    refine lI (s2 _ _ e2) ⟨_,rfl,_,rfl,_,rfl,_,rfl,_,rfl,l,n,rs,q,121,r,110,rfl,hl2,hrs,n12,hq,hr',?_⟩
    obtain⟨ys,y1,y2,y3,y4⟩:=step s2 e2' (by decide) rfl
    exact⟨ys,y1,y2,_,_,rfl,y3,y4⟩
   ·cases hi
    refine lI (s2 _ _ e3) ⟨_,rfl,_,rfl,_,rfl,_,rfl,_,rfl,l,n,rs,q,110,r,121,rfl,hl2,hrs,n12,hq,hr',?_⟩
    obtain⟨ys,y1,y2,y3,y4⟩:=step s2 e2' (by decide) rfl
    exact⟨ys,y1,y2,_,_,rfl,y3,y4⟩
   ·cases hi
    refine lI (s2 _ _ e4) ⟨_,rfl,_,rfl,_,rfl,_,rfl,_,rfl,l,n,rs,q,110,r,110,rfl,hl2,hrs,n12,hq,hr',?_⟩
    obtain⟨ys,y1,y2,y3,y4⟩:=step s2 e2' (by decide) rfl
    exact⟨ys,y1,y2,_,_,rfl,y3,y4⟩
  ·rintro σ H2 ⟨v0,v1,rfl,s2,e2'⟩
   refine⟨p,_,rfl,aD.of e2',?_⟩
   show Q (.bl ((fv rs q r).all id)) H2
   rw[M9]
   exact k H2 (s05.trans' s2)
theorem Na (x y:Str):(x ++ y).length=x.length + y.length:=by
 show(x.cps ++ y.cps).size=_
 rw[Array.size_append]
 rfl
end
abbrev qc:Stmt:=ak 93
theorem wD (rs:List Str)(n l:Nat):((bq rs n l).map (·.1)).Nodup:=by
 have e:(bq rs n l).map (·.1)=(List.range n).filter λr=>(dj rs l r).isSome:=by
  unfold bq
  rw[List.map_filterMap]
  rw[<- List.filterMap_eq_filter]
  refine yB λr _=>?_
  unfold cg
  cases z:dj rs l r <;> simp[Option.guard,z]
 rw[e]
 exact List.Nodup.sublist List.filter_sublist List.nodup_range
theorem KP {l:List Nat}{i q:Nat}(nd:l.Nodup)(h:l[i]? = some q):q∉l.take i:=λw=>by
 obtain⟨j,hj⟩:=List.getElem?_of_mem w
 rw[List.getElem?_take] at hj
 split at hj
 ·rename_i ji
  have e:=(List.getElem?_inj (cE.mp hj).1 nd).mp (hj.trans h.symm)
  omega
 ·cases hj
def ja (H:Hp)(p:Addr)(bl:List (List (Nat×Nat))):Prop:=∃ bs:List Addr,H p=some (.lst (bs.map V.ref))/\bs.length=bl.length/\∀(i:Nat) (b:Addr) (ks:List (Nat×Nat)),bs[i]? = some b->bl[i]? = some ks->∃ as:List Addr,H b=some (.lst (as.map V.ref))/\cH H as (ks.map au)
theorem Oc {H0 H:Hp}{p:Addr}{bl:List (List (Nat×Nat))}(B:fF H0 p H bl):ja H p bl:=by
 obtain⟨bs,e,l,_,g⟩:=B.at_
 exact⟨bs,e,l,g⟩
theorem ja.mono {H H':Hp}{p:Addr}{bl:List (List (Nat×Nat))}(B:ja H p bl)(s:aB H H'):ja H' p bl:=by
 obtain⟨bs,e,l,g⟩:=B
 exact⟨bs,s _ _ e,l,λi b ks h1 h2=>let ⟨as,e1,t1⟩:=g i b ks h1 h2; ⟨as,s _ _ e1,t1.mono s⟩⟩
section
variable {CX:gz}{P:Program}{w:World}{K:PySem.W.Frag}{mg:Str->Option Value}{base:Heap}{k:Nat}{f c:Addr}{qual:Str}{params:Arguments}{body:Expr}{scope:Scope}{cl:List (Str×Addr)}{pm ctv:Value}{N:List Str}{σ:St}{sp:Sp}
def wx (K:PySem.W.Frag):Sp:=λvs H Q _=>pZ λ(b:Addr) (as:List Addr) (n:Nat) (ks:List (Nat×Nat)) (x:Str)=>vs=[.str x,.ref b]/\Row n x/\n<=12/\aD K H b (as.map V.ref)/\cH H as (ks.map au)/\(ks.map (·.1)).Nodup/\(∀ p∈ks,p.1 < n)/\Q (.str (bM n (ks.map (·.1)) x)) H
abbrev OF:List Str:=["_law_row", "_law_bundle", "_law_q", "_law_sign"]
abbrev nh:List Str:=["_law_row", "_law_bundle"]
theorem uG:FnScope OF nh (aS qc):={}
theorem Be {f fn:Addr}{fd gn:FuncData}(D:Df K mg "_law_turned" qc nh f fd) (Dn:Df K mg "_law_not" qY ["_law_sign"] fn gn) (B:Bt mg):aG P w K mg base (aH P w) 2 f fd nh (wx K):=by
 refine D.F.okN uG (λvs H Q E h=>?_) (λcdv A outer s H vs Q E hr h=>?_)
 ·obtain⟨b,as,n,ks,x,rfl,_⟩:=h
  rfl
 ·obtain⟨b,as,n,ks,x,rfl,hx,n12,hb,ta,nd,lt,k⟩:=h
  refine⟨_,aK (dD d8 rfl (cK (pv 1)) (dF rfl (bF (aU (i:=2) uG.nd rfl (Or.inl rfl)) (bF (aU (i:=3) uG.nd rfl (Or.inl rfl)) dE)))
   (aL (aq (i:=0) uG.nd rfl (Or.inl rfl) (am kQ (am kQ (jq u8 (pv 0) jp (jo (pv 2))) (aO Dn (BX Dn B) (hr.mono (by decide)) aJ (aA (af dS (pv 0) (pv 2) (λ_ _=>rfl)) aC))) (jq u8 (pv 0) (jo (am dG (pv 2) aM)) jp)))))
   (aL (aX (pv 0))),?_⟩
  have la:as.length=ks.length:=by rw[ta.1,aI]
  refine⟨_,rfl,b,rfl,⟨_,hb⟩,jN (K:=K) (a:=b) (xs:=as.map V.ref) (λi σ H2=>∃ v2 v3,σ=[some (.str (bM n ((ks.take i).map (·.1)) x)),some (.ref b),v2,v3]/\H2=H) ⟨none,none,?_,rfl⟩ (λi σ H2 _ ⟨_,_,_,e⟩=>by rw[e]; exact hb) ?_ ?_⟩
  ·have e:bM n ((ks.take 0).map (·.1)) x=x:=by
    show tx n (gF [] x)=x
    refine((cu hx.len).trans (mT λi hi=>?_)).symm
    unfold gF
    rw[aN (by simp)]
   rw[e]
   rfl
  ·rintro i y σ H2 hi ⟨v2,v3,rfl,rfl⟩
   obtain⟨r1,k1,rfl,ek,er⟩:=ta.item hi
   rw[ar] at ek
   cases zi:ks[i]? with
   | none=>rw[zi] at ek; cases ek
   | some pr =>
    rw[zi] at ek
    cases ek
    obtain⟨q,a⟩:=pr
    have hq:q < n:=lt (q,a) (bI zi)
    have rt:Row n (bM n ((ks.take i).map (·.1)) x):=kH hx
    have sz:(bM n ((ks.take i).map (·.1)) x).length<=sizeLine:=by rw[rt.len]; exact ay (by omega)
    have l1:=nP (bM n ((ks.take i).map (·.1)) x) none (some (q:Int))
    have l2:=nP (bM n ((ks.take i).map (·.1)) x) (some ((q:Int) + 1)) none
    have ni:q∉(ks.take i).map (·.1):=by
     rw[tI]
     exact KP nd (by rw[ar,zi]; rfl)
    refine⟨r1,_,rfl,bT.of er,rfl,_,_,rfl,_,_,rfl,rfl,?_⟩
    refine⟨_,rfl,_,rfl,_,rfl,_,rfl,sz,_,rfl,_,rfl,_,_,_,rfl,rfl,sz,iz rt hq,ch (bM n ((ks.take i).map (·.1)) x) q,rfl,_,_,rfl,rfl,?_,_,rfl,_,rfl,_,_,rfl,rfl,_,rfl,_,rfl,sz,_,_,rfl,rfl,?_,?_⟩
    ·show(Txt.slice (bM n ((ks.take i).map (·.1)) x) none (some (q:Int))).length + 1<=sizeLine
     rw[rt.len] at l1
     rw[fG]; omega
    ·show(Txt.slice (bM n ((ks.take i).map (·.1)) x) none (some (q:Int)) ++ (⟨#[_]⟩:Str)).length + (Txt.slice (bM n ((ks.take i).map (·.1)) x) (some ((q:Int) + 1)) none).length<=sizeLine
     rw[Na]
     show(Txt.slice (bM n ((ks.take i).map (·.1)) x) none (some (q:Int))).length + 1 + _<=sizeLine
     rw[rt.len] at l1 l2
     rw[fG]; omega
    ·refine⟨some (.int q),some (s1 a),?_,rfl⟩
     have e:=zL (a:=df (ch (bM n ((ks.take i).map (·.1)) x) q)) rt.len hq
     have e2:tx n (cJ (bM n ((ks.take i).map (·.1)) x) q (df (ch (bM n ((ks.take i).map (·.1)) x) q)))=bM n ((ks.take (i + 1)).map (·.1)) x:=by
      unfold bM
      refine mT λj hj=>?_
      unfold cJ
      rw[dA,zi,bQ]
      show _=gF (_ ++ [q]) x j
      by_cases c:j=q
      ·rw[aP c,bE hq,c]
       unfold gF
       rw[aN ni,aP (by simp)]
      ·rw[aN c,bE hj]
       unfold gF
       by_cases m:j∈(ks.take i).map (·.1)
       ·rw[aP m,aP (pR _ m)]
       ·rw[aN m,aN (λw=>by
         rcases gQ.mp w with w | w
         ·exact m w
         ·exact c (bH.mp w))]
     rw[<- e2,<- e]
     rfl
  ·rintro σ H2 ⟨v2,v3,rfl,rfl⟩
   rw[aI,la,cW]
   exact⟨_,rfl,k⟩
end
abbrev qh:Stmt:=ak 92
section
variable {P:Program}{w:World}{K:PySem.W.Frag}{mg:Str->Option Value}{base:Heap}{C fi fa ft fy fm fc:Addr}{gi ga gt gy gm gc:FuncData}{W BC BS fW fC fS:Addr}{gW gC gS:FuncData}
def wz (K:PySem.W.Frag):Sp:=λvs H Q _=>pZ λ(sh:Addr) (n:Nat) (rs:List Str) (x y:Str)=>vs=[.ref sh,.str x,.str y]/\ja H sh (cD rs n)/\(∀ x∈rs,Row n x)/\Row n x/\Row n y/\n<=12/\∀ p xs H',H p=none->aB H H'->H' p=some (.lst xs)->xs.length=dfc rs n x y->Q (.ref p) H'
abbrev OK:List Str:=["_law_sheaves", "_law_one", "_law_another"]
abbrev nn:List Str:=["_law_sheaves", "_law_one", "_law_another"]
theorem IF:FnScope OK nn (aS qh):={}
abbrev Em:List Str:=["_law_sheaf", "_law_one", "_law_another"]
theorem Kv:Em.Nodup:=by trivial
theorem Bg {f:Addr}{fd:FuncData}(D:Df K mg "_law_apart" qh nn f fd):aG P w K mg base (aH P w) 1 f fd nn (wz K):=by
 refine D.F.okN IF (λvs H Q E h=>?_) (λcdv A outer s H vs Q E hr h=>?_)
 ·obtain⟨sh,n,rs,x,y,rfl,_⟩:=h
  rfl
 ·obtain⟨sh,n,rs,x,y,rfl,⟨bs,es,lbs,gs⟩,hrs,hx,hy,n12,k⟩:=h
  refine⟨_,aL (aX (cS (N':=Em) (fm:=[none,some 1,some 2]) rfl ⟨rfl,by trivial,by trivial,rfl,rfl,rfl⟩ (cK (pv 0)) (λ_ _ _ _=>(aU (i:=0) Kv rfl (Or.inl rfl))) (λ_ _ _ _=>(eV (aw jt (af dS (pv 1) (af (r:=qu K) iV (af (r:=jh K) bN (pv 0) aM (λ_ _=>rfl)) aM (λ_ _=>rfl)) (λ_ _=>rfl)) (af dS (pv 2) (af (r:=qu K) iV (af (r:=jh K) bN (pv 0) aM (λ_ _=>rfl)) aM (λ_ _=>rfl)) (λ_ _=>rfl)) (ao _)))) (λ_ _ _ _=>(pv 0)))),?_⟩
  refine⟨_,rfl,sh,rfl,⟨_,aD.of es⟩,λp hp=>?_⟩
  have lb:bs.length=(aR rs n).length:=by rw[lbs]; unfold cD; rw[aI]
  have L12:(aR rs n).length<=12:=b8 (iU rs n) n12
  refine eI (K:=K) (a:=sh) (xs:=bs.map V.ref) (λi σ H2=>∃ v zs,σ=[v,some (.str x),some (.str y)]/\aB H H2/\H2 p=some (.lst zs)/\zs.length=((aR rs n).take i).countP (bS x y)) ⟨none,[],rfl,aB.new hp,aF,rfl⟩ (λi σ H2 _ ⟨_,_,_,s2,_⟩=>aD.of (s2 _ _ es)) ?_ ?_
  ·rintro i v' σ H2 hi ⟨v,zs,rfl,s2,e2,l2⟩
   rw[ar] at hi
   cases z:bs[i]? with
   | none=>rw[z] at hi; cases hi
   | some b =>
    rw[z] at hi
    cases hi
    have il:=(cE.mp z).1
    have yl:(aR rs n)[i]? = some (aR rs n)[i]:=bZ (by omega)
    generalize (aR rs n)[i]=lo at *
    have mem:=bI yl
    unfold aR at mem
    rw[cY,bK] at mem
    obtain⟨tl,et⟩:=yT hrs mem.1 mem.2
    obtain⟨as,ea,ta⟩:=gs i b (bq rs n lo) z (by unfold cD; rw[ar,yl]; rfl)
    rw[et] at ta
    have sx:x.length<=sizeLine:=by rw[hx.len]; exact ay (by omega)
    have sy:y.length<=sizeLine:=by rw[hy.len]; exact ay (by omega)
    cases as with
    | nil=>exact absurd ta.1 (by simp)
    | cons a0 at' =>
     have ea0:=ta.2 0 a0 _ rfl rfl
     have sn:((aR rs n).take (i + 1)).countP (bS x y)=((aR rs n).take i).countP (bS x y) + (bS x y lo).toNat:=by
      rw[dA,yl,List.countP_append]
      congr 1
     have c12:zs.length<=12:=by
      rw[l2]
      refine b8 yw ?_
      rw[cZ]
      omega
     refine⟨_,rfl,_,rfl,b,_,_,_,rfl,rfl,aD.of (s2 _ _ ea),(show cL _ ((0:Nat):Int)=_ from dv rfl),a0,_,_,_,rfl,rfl,bT.of (s2 _ _ ea0),rfl,_,_,_,rfl,rfl,sx,iz hx mem.1,_,rfl,_,rfl,b,_,_,_,rfl,rfl,aD.of (s2 _ _ ea),(show cL _ ((0:Nat):Int)=_ from dv rfl),a0,_,_,_,rfl,rfl,bT.of (s2 _ _ ea0),rfl,_,_,_,rfl,rfl,sy,iz hy mem.1,rfl,_,rfl,bG (λc=>?_) (λc=>?_)⟩
     ·have c:(!decide (s1 (ch x lo)=s1 (ch y lo)))=true:=c
      rw[eP] at c
      have c:¬ ch x lo=ch y lo:=by simpa using c
      refine⟨_,rfl,zs,e2,cA c12 (by decide),_,_,rfl,bW hp s2,aF,?_⟩
      rw[cR,l2,sn]
      unfold bS
      rw[bR c]
      rfl
     ·have c:¬ (!decide (s1 (ch x lo)=s1 (ch y lo)))=true:=c
      rw[eP] at c
      have c:ch x lo=ch y lo:=by simpa using c
      refine⟨_,_,rfl,s2,e2,?_⟩
      rw[l2,sn]
      unfold bS
      rw[cy (λw=>w c)]
      rfl
  ·rintro σ H2 ⟨v,zs,rfl,s2,e2,l2⟩
   rw[aI,lb,cW] at l2
   exact k p zs H2 hp s2 e2 l2
end
abbrev qp:Stmt:=ak 88
section
variable {P:Program}{w:World}{K:PySem.W.Frag}{mg:Str->Option Value}{base:Heap}{C fi fa ft fy fm fc:Addr}{gi ga gt gy gm gc:FuncData}
theorem TabAt.perm {C:Addr}{H:Hp}{t dx kp bt:Addr}{n m:Nat}{rs rs':List Str}(h:TabAt C H t dx kp bt n m rs)(p:rs.Perm rs'):TabAt C H t dx kp bt n m rs':=by
 obtain⟨i,c,bvs,e1,e2,hK,hB,r⟩:=h
 exact⟨i,c,bvs,e1,e2,hK.perm p,hB.perm p,r⟩
theorem TabAt.off {C:Addr}{H:Hp}{t dx kp bt l:Addr}{n m:Nat}{rs:List Str}{xs ys:List V}(h:TabAt C H t dx kp bt n m rs)(hl:H l=some (.lst xs)):TabAt C (upd H l (.lst ys)) t dx kp bt n m rs/\l≠kp/\l≠bt:=by
 obtain⟨i,c,bvs,e1,e2,r⟩:=h
 have n1:l≠kp:=λz=>by rw[z,e1] at hl; cases hl
 have n2:l≠bt:=λz=>by rw[z,e2] at hl; cases hl
 have n3:l≠t:=λz=>by rw[z,i] at hl; cases hl
 exact⟨⟨by rw[aj (fB n3)]; exact i,c,bvs,by rw[aj (fB n1)]; exact e1,by rw[aj (fB n2)]; exact e2,r⟩,n1,n2⟩
theorem CD {α β:Type}(f:α->β):∀(l:List α) (k:Nat),(l.map f).eraseIdx k=(l.eraseIdx k).map f
 | [],_=>rfl
 | _ :: _,0=>rfl
 | a :: r,k + 1=>by
  show f a :: (r.map f).eraseIdx k=f a :: (r.eraseIdx k).map f
  rw[CD f r k]
theorem yC {α:Type}:∀{l:List α}{k:Nat}{x:α},l[k]? = some x->l.Perm (x :: l.eraseIdx k)
 | a :: r,0,x,h=>by simp at h; subst h; exact .refl _
 | a :: r,k + 1,x,h=>by
  have h':r[k]? = some x:=by simpa using h
  show(a :: r).Perm (x :: a :: r.eraseIdx k)
  exact((yC h').cons a).trans (.swap x a _)
theorem Cu {α:Type}:∀(l:List α) (k:Nat),(l.eraseIdx k).length<=l.length
 | [],_=>aY _
 | _ :: _,0=>gB _
 | _ :: r,k + 1=>Nat.succ_le_succ (Cu r k)
def xo (a m:Nat->Nat)(i:Nat):Bool:=decide (m i=45∨m i=a i)
def xp (a m:Nat->Nat)(n:Nat):Bool:=((List.range n).map (xo a m)).all id
theorem Ln (a m:Nat):eF (s1 m) [.str ("-" : Str),s1 a]=decide (m=45∨m=a):=by
 have e:∀ x y:Nat,eZ (s1 x) (s1 y)=decide (x=y):=λx y=>by
  rw[i6,dX,<- lW]
  show((⟨#[x]⟩:Str) == ⟨#[y]⟩)=true↔_
  rw[beq_iff_eq]
  exact⟨λh=>iY V.str h,λh=>by injection h⟩
 show(eZ (s1 45) (s1 m) || (eZ (s1 a) (s1 m) || false))=_
 rw[e,e,Bool.or_false,i6,wY,dX,dX,dX]
 exact⟨λh=>h.imp Eq.symm Eq.symm,λh=>h.imp Eq.symm Eq.symm⟩
def HF:Sp:=λvs H Q _=>ig λ(a m:Nat->Nat) (n:Nat)=>vs=[.str (tx n a),.str (tx n m)]/\n<=100/\∀ H',aB H H'->Q (.bl (xp a m n)) H'
abbrev Pl:List Str:=["_law_row", "_law_pattern_here"]
theorem ID:FnScope Pl Pl (aS qd):={}
theorem Ko:(["_law_k", "_law_pattern_here", "_law_row"]:List Str).Nodup:=by trivial
theorem Bf {f:Addr}{fd:FuncData}(D:Df K mg "_law_matches" qd Pl f fd) (B:Bt mg):aG P w K mg base (aH P w) 1 f fd Pl HF:=by
 refine D.F.okN ID (λvs H Q E h=>?_) (λcdv A outer s H vs Q E hr h=>?_)
 ·obtain⟨a,m,n,rfl,_⟩:=h
  rfl
 ·obtain⟨a,m,n,rfl,hn,q⟩:=h
  refine⟨_,aL (aX (bC (j5 rfl) (by rfl) B.all (by rfl) (aA
   (cS (N':=["_law_k", "_law_pattern_here", "_law_row"]) (fm:=[none,some 1,some 0]) rfl ⟨rfl,by trivial,by trivial,rfl,rfl,rfl⟩
    (gH (by rfl) B.range (aA (bC j4 (by rfl) B.len d7 (aA (pv 1) aC)) aC))
    (λ_ _ _ _=>aU (i:=0) Ko rfl (Or.inl rfl)) (λ_ _ _ _=>cU)
    (λ_ _ _ _=>eO (r:=jj K false) n4 (af dS (pv 1) (pv 0) (λ_ _=>rfl)) (dO (aA av (aA (af dS (pv 2) (pv 0) (λ_ _=>rfl)) aC))) (by rfl))) aC))),?_⟩
  refine⟨_,rfl,_,rfl,jD _ _ (by omega),_,rfl,by omega,by rw[ce]; omega,λp hp=>?_⟩
  have en:(((tx n m).length:Nat):Int).toNat=n:=by rw[ce]; omega
  rw[en]
  refine kB (λi σ H2=>∃ v,σ=[v,some (.str (tx n m)),some (.str (tx n a))]/\aB H H2/\H2 p=some (.lst ((List.range i).map λj=>V.bl (xo a m j)))) ⟨none,rfl,aB.new hp,aF⟩ ?_ ?_
  ·rintro i σ H2 hi ⟨v,rfl,s2,e2⟩
   have ei:(0:Int) + (i:Int)=(i:Int):=j6 _
   have at':∀ a:Nat->Nat,cL (tx n a).cps.toList (0 + (i:Int))=some (a i):=λa=>by rw[ei]; exact qE hi
   refine eN ⟨_,rfl,_,rfl,_,_,_,rfl,rfl,jD _ _ (by omega),at' m,_,rfl,_,rfl,_,_,_,rfl,rfl,jD _ _ (by omega),at' a,b8 (show 2<=2 from aY 2) (by decide),λT hT=>?_⟩
   have e3:upd H2 T (.tup [.str ("-" : Str),s1 (a i)]) p=some (.lst ((List.range i).map λj=>V.bl (xo a m j))):=aB.new hT p _ e2
   have s3:aB H (upd H2 T (.tup [.str ("-" : Str),s1 (a i)])):=s2.trans' (aB.new hT)
   refine⟨T,_,rfl,.inr (.inl (.inl aF)),rfl,rfl,_,e3,h9 _ _ (by omega),_,rfl,bW hp s3,?_⟩
   rw[aF,<- iu]
   show some (HO.lst (_ ++ [V.bl (eF (s1 (m i)) [.str ("-" : Str),s1 (a i)])]))=_
   rw[Ln]
   rfl
  ·rintro σ H2 ⟨v,rfl,s2,e2⟩
   rw[xr] at e2
   exact⟨p,_,rfl,aD.of e2,q H2 s2⟩
end
theorem u9 {p p':Nat×Nat}(h:au p=au p'):p=p':=by
 obtain⟨q,a⟩:=p
 obtain⟨r,b⟩:=p'
 unfold au sk at h
 simp at h
 obtain⟨h1,h2⟩:=h
 have h1:q=r:=by omega
 subst h1
 subst h2
 rfl
structure Tl (rs:List Str) (n:Nat) (ps:List Str) (num:Nat) (kvs:List (List aQ×V)):Prop where
 own:∀ k v,b9 kvs k=some v->∃(p:Nat×Nat) (i:Nat) (x:Str),k=au p/\v=.int i/\i < num/\ps[i]? = some x/\p.1 < n/\p.2=ch x p.1/\¬ p.2=45
 has:∀ i x q,i < num->ps[i]? = some x->q < n->¬ ch x q=45->(b9 kvs (au (q,ch x q))).isSome=true
 two:∀ p p',(b9 kvs (au p)).isSome=true->(b9 kvs (au p')).isSome=true->0 < aT rs p.1 p.2 p'.1 p'.2
 len:kvs.length<=12 * num
theorem Tl.start (rs:List Str)(n:Nat)(ps:List Str):Tl rs n ps 0 []:=⟨(λk v h=>by cases h),(λi x q h=>absurd h (Nat.not_lt_zero _)),(λp p' h=>by cases h),bX _⟩
noncomputable def dq (kvs:List (List aQ×V))(x:Str)(n:Nat):List (Nat×Nat):=(bB x n).filter λp=>!(b9 kvs (au p)).isSome
theorem Tl.next {rs:List Str}{n:Nat}{ps:List Str}{num:Nat}{kvs kvs':List (List aQ×V)}{x:Str}(h:Tl rs n ps num kvs)(hx:ps[num]? = some x)(sx:eh rs n x)(n12:n<=12)
  (ok:∀ p'∈dq kvs x n,∀ p,(b9 kvs (au p)).isSome=true->0 < aT rs p.1 p.2 p'.1 p'.2) (hv:∀ k,(k∈(dq kvs x n).map au->b9 kvs' k=some (.int num))/\(k∉(dq kvs x n).map au->b9 kvs' k=b9 kvs k)) (hl:kvs'.length<=kvs.length + (dq kvs x n).length):Tl rs n ps (num + 1) kvs':=by
 have inF:∀ p,au p∈(dq kvs x n).map au↔p∈dq kvs x n:=λp=>by
  rw[List.mem_map]
  exact⟨λ⟨p',hp,e⟩=>by rw[<- u9 e]; exact hp,λhp=>⟨p,hp,rfl⟩⟩
 have fA:∀ p∈dq kvs x n,p.1 < n/\p.2=ch x p.1/\¬ p.2=45:=λp hp=>m8 (cY.mp hp).1
 have some_iff:∀ p,(b9 kvs' (au p)).isSome=true↔p∈dq kvs x n∨(b9 kvs (au p)).isSome=true:=λp=>by
  by_cases c:p∈dq kvs x n
  ·rw[(hv _).1 ((inF p).mpr c)]
   exact⟨λ_=>.inl c,λ_=>rfl⟩
  ·rw[(hv _).2 (λw=>c ((inF p).mp w))]
   exact⟨.inr,λw=>w.resolve_left c⟩
 refine⟨λk v e=>?_,λi y q hi hy hq nq=>?_,λp p' e e'=>?_,?_⟩
 ·by_cases c:k∈(dq kvs x n).map au
  ·rw[(hv _).1 c] at e
   cases e
   obtain⟨p,hp,rfl⟩:=cI.mp c
   obtain⟨a,b,d⟩:=fA p hp
   exact⟨p,num,x,rfl,rfl,nu _,hx,a,b,d⟩
  ·rw[(hv _).2 c] at e
   obtain⟨p,i,y,a,b,d,r⟩:=h.own k v e
   exact⟨p,i,y,a,b,nv d,r⟩
 ·rw[some_iff]
  by_cases c:i < num
  ·exact .inr (h.has i y q c hy hq nq)
  ·have e:i=num:=by omega
   subst e
   rw[hx] at hy
   cases hy
   cases z:(b9 kvs (au (q,ch x q))).isSome with
   | true=>exact .inr rfl
   | false=>exact .inl (cY.mpr ⟨p5 hq nq,by rw[z]; rfl⟩)
 ·rw[some_iff] at e e'
  rcases e with e | e <;> rcases e' with e' | e'
  ·obtain⟨a1,a2,a3⟩:=fA p e
   obtain⟨b1,b2,b3⟩:=fA p' e'
   rw[a2,b2]
   exact sx _ _ a1 b1 (by rw[<- a2]; exact a3) (by rw[<- b2]; exact b3)
  ·rw[m7]
   exact ok p e p' e'
  ·exact ok p' e' p e
  ·exact h.two p p' e e'
 ·have l1:=nN x n
  have l2:(dq kvs x n).length<=(bB x n).length:=gT _ _
  have l3:=h.len
  omega
structure Wh (rs:List Str) (n:Nat) (kvs:List (List aQ×V)) (i:Nat) (W:Str):Prop where
 pat:dQ n W
 key:∀ q,q < n->ch W q=45∨(b9 kvs (au (q,ch W q))).isSome=true
 all:∀ j p v,j < i->kvs[j]? = some (au p,v)->ch W p.1=p.2
theorem Wh.start (rs:List Str)(n:Nat)(kvs:List (List aQ×V)):Wh rs n kvs 0 (tx n λ_=>45) :=
 ⟨⟨ce _ _,λi hi=>by rw[bE hi]; exact .inr (.inr rfl)⟩,(λq hq=>by rw[bE hq]; exact .inl rfl),λj p v h=>absurd h (Nat.not_lt_zero _)⟩
theorem oB {kvs:List (List aQ×V)}{j:Nat}{k:List aQ}{v:V}(h:kvs[j]? = some (k,v)):(b9 kvs k).isSome=true:=qB.mpr (cI.mpr ⟨_,bI h,rfl⟩)
theorem Wh.next {rs:List Str}{n:Nat}{ps:List Str}{num i:Nat}{kvs:List (List aQ×V)}{W:Str}{p:Nat×Nat}{v:V}(h:Wh rs n kvs i W)(T:Tl rs n ps num kvs)(hi:kvs[i]? = some (au p,v))(hp:p.1 < n)(sp:p.2=121∨p.2=110):Wh rs n kvs (i + 1) (tx n (cJ W p.1 p.2)):=by
 have at_:∀ q,q < n->ch (tx n (cJ W p.1 p.2)) q=if q=p.1 then p.2 else ch W q:=λq hq=>by rw[bE hq]; rfl
 refine⟨⟨ce _ _,λq hq=>?_⟩,λq hq=>?_,λj p' v' hj hk=>?_⟩
 ·rw[at_ q hq]
  split
  ·rcases sp with e | e
   ·exact .inl e
   ·exact .inr (.inl e)
  ·exact h.pat.sgn q hq
 ·rw[at_ q hq]
  by_cases c:q=p.1
  ·rw[aP c,c]
   exact .inr (oB hi)
  ·rw[aN c]
   exact h.key q hq
 ·have hp':p'.1 < n:=by
   obtain⟨v1,e1⟩:=tF.mp (oB hk)
   obtain⟨p2,_,_,e2,_,_,_,l,_⟩:=T.own _ _ e1
   rw[u9 e2]; exact l
  rw[at_ _ hp']
  by_cases c:p'.1=p.1
  ·rw[aP c]
   obtain⟨y,_,e1,e2⟩:=bn.mp (T.two p p' (oB hi) (oB hk))
   rw[<- e1,<- e2,c]
  ·rw[aN c]
   by_cases w:j < i
   ·exact h.all j p' v' w hk
   ·have e:j=i:=by omega
    subst e
    rw[hi] at hk
    have e2:=(Prod.mk.inj (kD hk)).1
    exact absurd (show p'.1=p.1 by rw[u9 e2]) c
theorem Wh.fin {rs:List Str}{n:Nat}{ps:List Str}{kvs:List (List aQ×V)}{W:Str}(h:Wh rs n kvs kvs.length W)(T:Tl rs n ps ps.length kvs):eh rs n W/\∀ x∈ps,∀ i,i < n->¬ ch x i=45->ch W i=ch x i:=by
 refine⟨λq r hq hr nq nr=>?_,λx hx i hi ni=>?_⟩
 ·exact T.two (q,ch W q) (r,ch W r) ((h.key q hq).resolve_left nq) ((h.key r hr).resolve_left nr)
 ·obtain⟨j,hj⟩:=ny.mp hx
  have m:=qB.mp (T.has j x i (cE.mp hj).1 hj hi ni)
  obtain⟨kv,hkv,e⟩:=cI.mp m
  obtain⟨l,hl⟩:=ny.mp hkv
  obtain⟨k,v⟩:=kv
  cases (show k=au (i,ch x i) from e)
  exact h.all l (i,ch x i) v (cE.mp hl).1 hl
abbrev qj:Stmt:=ak 49
def FA (rs:List Str)(n:Nat)(x y:Str):Prop:=∃ q r,q < n/\r < n/\¬ ch x q=45/\¬ ch y r=45/\aT rs q (ch x q) r (ch y r)=0
def Ew (H:Hp)(p:Addr)(rs:List Str)(n:Nat)(ps:List Str):Prop :=
 (∃ z,H p=some (.tup [.str "row",.str z])/\Row n z/\b6 rs n z/\∀ x∈ps,∀ i,i < n->¬ ch x i=45->ch z i=ch x i) ∨
 ∃(i j:Nat) (x y:Str),H p=some (.tup [.str "apart",.int i,.int j])/\i<=j/\ps[i]? = some x/\ps[j]? = some y/\FA rs n x y
section
variable {P:Program}{w:World}{K:PySem.W.Frag}{mg:Str->Option Value}{base:Heap}{C fi fa ft fy fm fc:Addr}{gi ga gt gy gm gc:FuncData}{W BC BS fW fC fS:Addr}{gW gC gS:FuncData}
def AK (C:Addr):Sp:=λvs H Q _=>gY λ(t dx kp bt pl:Addr) (n m:Nat) (rs ps:List Str)=>vs=[.ref t,.ref pl]/\TabAt C H t dx kp bt n m rs/\H pl=some (.lst (ps.map V.str))/\(∀ x∈ps,dQ n x/\eh rs n x)/\ps.length<=100/\1<=n/\n<=12/\rs≠[]/\(∀ y∈rs,Row n y) /\
 ∀ p H',aB H H'->Ew H' p rs n ps->Q (.ref p) H'
abbrev OL:List Str:=["table", "patterns", "tellers", "number", "pattern", "fresh", "r", "b", "q", "a", "answer", "whole", "question", "sign"]
abbrev sj:List Str:=["table", "patterns"]
theorem i8:FnScope OL sj (aS qj):={}
abbrev En:List Str:=["answer", "tellers"]
theorem Kw:En.Nodup:=by trivial
theorem Bh {f fn fl fw:Addr}{fd gn gl gw:FuncData}(D:Df K mg "joined" qj sj f fd) (Dn:Df K mg "answers" oW ["pattern"] fn gn) (T:Tb K mg C fi fa ft fy fm fc gi ga gt gy gm gc) (Gc:aG P w K mg base (aH P w) 3 fc gc kC (lK C)) (Dl:Df K mg "fill" lV cX fl gl) (Gl:aG P w K mg base (aH P w) 5 fl gl cX (x6 C))
  (Dw:Df K mg "with_answer" oQ nV fw gw) (B:Bt mg) (M:Gm mg):aG P w K mg base (aH P w) 6 f fd sj (AK C):=by
 refine D.F.okN i8 (λvs H Q E h=>?_) (λcdv A outer s H vs Q E hr h=>?_)
 ·obtain⟨t,dx,kp,bt,pl,n,m,rs,ps,rfl,_⟩:=h
  rfl
 ·obtain⟨t,dx,kp,bt,pl,n,m,rs,ps,rfl,tab,epl,hps,l100,n1,n12,rne,hrs,k⟩:=h
  have hu:(A.deeper (envOfC "joined" (aS qj) s.heap.objs.size f cdv)).units + 1 < cLine:=by have:=hr.units; omega
  refine⟨_,aK (aq (i:=2) i8.nd rfl (Or.inr rfl) BA)
   (aK (dD d8 rfl (oa (by rfl) M.enum (aA (pv 1) aC)) (dF rfl (bF (aU (i:=3) i8.nd rfl (Or.inl rfl)) (bF (aU (i:=4) i8.nd rfl (Or.inl rfl)) dE)))
   (aK (oZ (i:=5) (N':=En) (fm:=[none,some 2]) rfl i8.nd rfl rfl ⟨rfl,by trivial,by trivial,rfl,rfl,rfl⟩ (cK (aO Dn (xf Dn M) (hr.mono (by decide)) aJ (aA (pv 4) aC))) (λ_ _ _ _=>(aU (i:=0) Kw rfl (Or.inl rfl))) (λ_ _ _ _=>(eV (vF (xT hu (pv 0) (pv 1))))) (λ_ _ _ _=>(pv 0)))
   (aK (dD d8 rfl (cK (pv 5)) (dF rfl (bF (aU (i:=6) i8.nd rfl (Or.inl rfl)) (bF (aU (i:=7) i8.nd rfl (Or.inl rfl)) dE)))
   (aL (dD d8 rfl (B8 (pv 2)) (dF rfl (bF (aU (i:=8) i8.nd rfl (Or.inl rfl)) (bF (aU (i:=9) i8.nd rfl (Or.inl rfl)) dE)))
   (aL (bJ (aw cF (iA (pv 0) T.cl T.mc Gc (hr.mono (by decide)) T.bc .nil aJ (aA (pv 8) (aA (pv 9) (aA (pv 6) (aA (pv 7) aC))))) aM (ao _)) (aL (aX (dO (aA av (aA (BD hu (pv 2) (dO (aA (pv 8) (aA (pv 9) aC))) (λ_ _=>rfl)) (aA (pv 3) aC)))))) bO)))))
   (aL (J6 (dD d8 rfl (cK (pv 5)) (aU (i:=10) i8.nd rfl (Or.inl rfl))
   (aL (xN hu (pv 2) (pv 10) (pv 3) rfl))))))))
   (aK (aq (i:=11) i8.nd rfl (Or.inl rfl) (am BK av (dY (pv 0) rfl)))
   (aK (dD d8 rfl (B8 (pv 2)) (dF rfl (bF (aU (i:=12) i8.nd rfl (Or.inl rfl)) (bF (aU (i:=13) i8.nd rfl (Or.inl rfl)) dE)))
   (aL (aq (i:=11) i8.nd rfl (Or.inl rfl) (aO Dw (xW Dw) (hr.mono (by decide)) aJ (aA (pv 11) (aA (pv 12) (aA (pv 13) aC)))))))
   (aL (aX (dO (aA av (aA (aO Dl Gl (hr.mono (by decide)) aJ (aA (pv 0) (aA (pv 11) aC))) aC)))))))),?_⟩
  intro td htd
  have s0:aB H (upd H td (.dT [])):=aB.new htd
  refine⟨_,rfl,pl,rfl,⟨_,aD.of (s0 _ _ epl)⟩,?_⟩
  refine yA (K:=K) (a:=pl) (xs:=ps.map V.str) (λi σ H2=>∃(kvs:List (List aQ×V)) (v3 v4 v5 v6 v7 v8 v9 v10:Option V),σ=[some (.ref t),some (.ref pl),some (.ref td),v3,v4,v5,v6,v7,v8,v9,v10,none,none,none]/\aB H H2/\H2 td=some (.dT kvs)/\Tl rs n ps i kvs) ⟨[],_,_,_,_,_,_,_,_,rfl,s0,aF,Tl.start rs n ps⟩ (λi σ H2 _ ⟨_,_,_,_,_,_,_,_,_,_,s2,_⟩=>aD.of (s2 _ _ epl)) ?_ ?_
  ·rintro i y TT σ H2 hi hTT ⟨kvs,v3,v4,v5,v6,v7,v8,v9,v10,rfl,s2,e2,tl⟩
   rw[ar] at hi
   cases zi:ps[i]? with
   | none=>rw[zi] at hi; cases hi
   | some x =>
    rw[zi] at hi
    cases hi
    have il:=(cE.mp zi).1
    obtain⟨px,sx⟩:=hps x (bI zi)
    have sT:=aB.new (o:=.tup [.int i,.str x]) hTT
    have e2T:=sT _ _ e2
    have hTd:H2 TT=none:=hTT
    refine⟨TT,_,rfl,bT.of aF,rfl,_,_,rfl,_,_,rfl,rfl,?_⟩
    have s2T:=s2.trans' sT
    generalize upd H2 TT (.tup [.int i,.str x])=H3 at *
    refine⟨_,rfl,x,n,rfl,px.len,n12,λga H4 hga acc=>?_⟩
    obtain⟨as,ea,ta⟩:=acc.at_
    have s34:=acc.same
    have e4:=s34 _ _ e2T
    refine⟨ga,rfl,⟨_,aD.of ea⟩,λlb hlb=>?_⟩
    refine eI (K:=K) (a:=ga) (xs:=as.map V.ref) (λj σ H5=>∃(v:Option V) (fs:List Addr),σ=[v,some (.ref td)]/\aB H4 H5/\H5 lb=some (.lst (fs.map V.ref))/\cH H4 fs ((((bB x n).take j).filter λp=>!(b9 kvs (au p)).isSome).map au)) ⟨none,[],rfl,aB.new hlb,aF,cH.nil⟩ (λi σ H5 _ ⟨_,_,_,s5,_⟩=>aD.of (s5 _ _ ea)) ?_ ?_
    ·rintro j y σ H5 hj ⟨v,fs,rfl,s5,e5,t5⟩
     obtain⟨r1,k1,rfl,ek,er⟩:=ta.item hj
     rw[ar] at ek
     cases zj:(bB x n)[j]? with
     | none=>rw[zj] at ek; cases ek
     | some pr =>
      rw[zj] at ek
      cases ek
      have sn:((bB x n).take (j + 1)).filter (λp=>!(b9 kvs (au p)).isSome)=((bB x n).take j).filter (λp=>!(b9 kvs (au p)).isSome) ++ [pr].filter (λp=>!(b9 kvs (au p)).isSome):=by
       rw[dA,zj,pT]
       rfl
      have fl:fs.length<=12:=by
       rw[t5.1,aI]
       exact b8 (gT _ _) (b8 (List.length_take_le' _ _) (b8 (nN x n) n12))
      refine⟨_,rfl,_,rfl,td,_,rfl,zC (s5 _ _ e4) (s5 _ _ er),_,rfl,?_⟩
      show if (!(b9 kvs (au pr)).isSome)=true then _ else _
      cases zv:(b9 kvs (au pr)).isSome with
      | false =>
       rw[aP (by rfl)]
       refine⟨_,rfl,_,e5,?_,_,fs ++ [r1],rfl,bW hlb s5,?_,?_⟩
       ·rw[aI]
        exact cA fl (by decide)
       ·rw[aF,bQ]; rfl
       ·rw[sn,show[pr].filter (λp=>!(b9 kvs (au p)).isSome)=[pr] from yt (p:=λp=>!(b9 kvs (au p)).isSome) (by rw[zv]; rfl),bQ]
        exact t5.snoc er
      | true =>
       rw[aN (by decide)]
       refine⟨_,fs,rfl,s5,e5,?_⟩
       rw[sn,show[pr].filter (λp=>!(b9 kvs (au p)).isSome)=[] from yu (p:=λp=>!(b9 kvs (au p)).isSome) (by rw[zv]; decide),gX]
       exact t5
    rintro σ H5 ⟨v,fs,rfl,s5,e5,t5⟩
    rw[aI,ta.1,aI,cW] at t5
    have t5:cH H5 fs ((dq kvs x n).map au):=t5.mono s5
    have e5d:=s5 _ _ e4
    have s25:=s2T.trans' (s34.trans' s5)
    have frm:∀ p∈dq kvs x n,p.1 < n/\(p.2=121∨p.2=110):=λp hp=>uA px (cY.mp hp).1
    have ltd:lb≠td:=λw=>by rw[w,e4] at hlb; cases hlb
    refine⟨_,rfl,lb,rfl,⟨_,aD.of e5⟩,?_⟩
    refine jN (K:=K) (a:=lb) (xs:=fs.map V.ref) (λj σ H6=>∃ v6 v7 v8 v9,σ=[some (.ref t),some (.ref pl),some (.ref td),some (.int i),some (.str x),some (.ref lb),v6,v7,v8,v9,v10,none,none,none]/\aB H H6/\H6 lb=some (.lst (fs.map V.ref))/\cH H6 fs ((dq kvs x n).map au)/\(H6 td=some (.dT kvs)∨∃ o,H6 td=some (.frz o (.dT kvs)))/\∀ j' p',j' < j->(dq kvs x n)[j']? = some p'->∀ p,(b9 kvs (au p)).isSome=true->0 < aT rs p.1 p.2 p'.1 p'.2) ⟨_,_,_,_,rfl,s25,e5,t5,.inl e5d,λj' p' h=>absurd h (Nat.not_lt_zero _)⟩ (λi σ H6 _ ⟨_,_,_,_,_,_,e6,_⟩=>aD.of e6) ?_ ?_
    ·rintro j y σ H6 hj ⟨v6,v7,v8,v9,rfl,s6,e6,t6,d6,dn⟩
     obtain⟨r1,k1,rfl,ek,er⟩:=t6.item hj
     rw[ar] at ek
     cases zj:(dq kvs x n)[j]? with
     | none=>rw[zj] at ek; cases ek
     | some p' =>
      rw[zj] at ek
      cases ek
      obtain⟨f1,f2⟩:=frm p' (bI zj)
      refine⟨r1,_,rfl,bT.of er,rfl,_,_,rfl,_,_,rfl,rfl,?_⟩
      refine Cg (td:=td) (kvs:=kvs) ⟨_,rfl,rfl,rfl⟩ d6 λo H7 e7 k7=>?_
      have ntd:∀ xs,H6 td≠some (.tup xs):=λxs w=>by rcases d6 with d | ⟨_,d⟩ <;> rw[d] at w <;> cases w
      have s7:=s6.but htd k7
      have t7:=t6.but ntd k7
      have l7:H7 lb=some (.lst (fs.map V.ref)):=by rw[k7 lb ltd]; exact e6
      refine Co (a:=td) (o:=o) (kvs:=kvs) (λi2 σ H8=>∃ v8 v9,σ=[some (.ref t),some (.ref pl),some (.ref td),some (.int i),some (.str x),some (.ref lb),some (.int p'.1),some (s1 p'.2),v8,v9,v10,none,none,none]/\aB H7 H8/\∀ j2 p v,j2 < i2->kvs[j2]? = some (au p,v)->0 < aT rs p.1 p.2 p'.1 p'.2) ⟨_,_,rfl,aB.refl _,λj2 p v h=>absurd h (Nat.not_lt_zero _)⟩ (λi2 σ H8 _ ⟨_,_,_,s8,_⟩=>s8 _ _ e7) ?_ ?_
      ·rintro i2 kk vv bb σ H8 hk ⟨v8,v9,rfl,s8,dn8⟩ eb
       obtain⟨v0,hv0⟩:=tF.mp (oB hk)
       obtain⟨p,i0,x0,rfl,rfl,i0l,hx0,p1,p2,p3⟩:=tl.own _ _ hv0
       have sp:p.2=121∨p.2=110:=by
        have:=(hps x0 (bI hx0)).1.sgn p.1 p1
        rw[<- p2] at this
        rcases this with h | h | h
        ·exact .inl h
        ·exact .inr h
        ·exact absurd h p3
       have tab8:=tab.mono (s7.trans' s8)
       refine⟨bb,_,rfl,bT.of eb,rfl,_,_,rfl,_,_,rfl,rfl,?_⟩
       refine⟨_,rfl,t,dx,_,rfl,tab8.ins,rfl,_,rfl,_,rfl,_,rfl,_,rfl,t,dx,kp,bt,n,m,rs,p.1,p.2,p'.1,p'.2,rfl,tab8,p1,f1,sp,f2,λH9 s9=>⟨rfl,_,rfl,bG (λc=>?_) (λc=>?_)⟩⟩
       ·have c:decide (V.int (aT rs p.1 p.2 p'.1 p'.2:Nat)=V.int 0)=true:=c
        rw[iW] at c
        have c0:aT rs p.1 p.2 p'.1 p'.2=0:=by have:=beq_iff_eq.mp c; omega
        have f3:=m8 (cY.mp (bI zj)).1
        refine⟨_,rfl,_,rfl,_,rfl,ay (show 2<=100 by decide),λT2 hT2=>?_⟩
        refine⟨td,.int i0,rfl,.inr ⟨kvs,au p,T2,.inr ⟨o,aB.new hT2 _ _ (s9 _ _ (s8 _ _ e7))⟩,rfl,aF,hv0.symm⟩,_,rfl,ay (show 3<=100 by decide),λrp hrp=>?_⟩
        refine k rp _ (s7.trans' (s8.trans' (s9.trans' ((aB.new hT2).trans' (aB.new hrp))))) (.inr ⟨i0,i,x0,x,aF,by omega,hx0,zi,p.1,p'.1,p1,f1,?_,?_,?_⟩)
        ·rw[<- p2]; exact p3
        ·rw[<- f3.2.1]; exact f3.2.2
        ·rw[<- p2,<- f3.2.1]; exact c0
       ·have c:¬ decide (V.int (aT rs p.1 p.2 p'.1 p'.2:Nat)=V.int 0)=true:=c
        refine⟨_,_,rfl,s8.trans' s9,λj2 p'' v'' hj2 hk2=>?_⟩
        by_cases w:j2 < i2
        ·exact dn8 j2 p'' v'' w hk2
        ·have e:j2=i2:=by omega
         subst e
         rw[hk] at hk2
         rw[<- u9 (Prod.mk.inj (kD hk2)).1]
         refine Nat.pos_of_ne_zero λw=>c (bR ?_)
         rw[w]; rfl
      ·rintro σ H8 ⟨v8,v9,rfl,s8,dn8⟩
       refine⟨_,_,v8,v9,rfl,s7.trans' s8,s8 _ _ l7,t7.mono s8,.inr ⟨o,s8 _ _ e7⟩,λj' q' hj' hq' p hp=>?_⟩
       by_cases w:j' < j
       ·exact dn j' q' w hq' p hp
       ·have e:j'=j:=by omega
        subst e
        rw[zj] at hq'
        cases hq'
        obtain⟨kv,hkv,e⟩:=cI.mp (qB.mp hp)
        obtain⟨l,hl⟩:=ny.mp hkv
        obtain⟨k0,v0⟩:=kv
        cases (show k0=au p from e)
        exact dn8 l p v0 (cE.mp hl).1 hl
    rintro σ H6 ⟨v6,v7,v8,v9,rfl,s6,e6,t6,d6,dn⟩
    have lfs:fs.length=(dq kvs x n).length:=by rw[t6.1,aI]
    have ok:∀ p'∈dq kvs x n,∀ p,(b9 kvs (au p)).isSome=true->0 < aT rs p.1 p.2 p'.1 p'.2:=λp' hp'=>by
     obtain⟨j,hj⟩:=ny.mp hp'
     exact dn j p' (by rw[aI,lfs]; exact(cE.mp hj).1) hj
    refine Fj (show _=none from htd) d6 λH7 e7 k7=>?_
    have ntd:∀ xs,H6 td≠some (.tup xs):=λxs w=>by rcases d6 with d | ⟨_,d⟩ <;> rw[d] at w <;> cases w
    have s7:=s6.but htd k7
    have t7:=t6.but ntd k7
    have l7:H7 lb=some (.lst (fs.map V.ref)):=by rw[k7 lb ltd]; exact e6
    refine⟨_,rfl,lb,rfl,⟨_,aD.of l7⟩,?_⟩
    refine jN (K:=K) (a:=lb) (xs:=fs.map V.ref) (λj σ H8=>∃(kv:List (List aQ×V)) (v10:Option V),σ=[some (.ref t),some (.ref pl),some (.ref td),some (.int i),some (.str x),some (.ref lb),v6,v7,v8,v9,v10,none,none,none]/\aB H H8/\H8 lb=some (.lst (fs.map V.ref))/\cH H8 fs ((dq kvs x n).map au)/\H8 td=some (.dT kv)/\(∀ k,(k∈((dq kvs x n).take j).map au->b9 kv k=some (.int i))/\(k∉((dq kvs x n).take j).map au->b9 kv k=b9 kvs k))/\kv.length<=kvs.length + j) ⟨kvs,_,rfl,s7,l7,t7,e7,(λk=>⟨(λh=>by cases h),λ_=>rfl⟩),aY _⟩ (λi σ H8 _ ⟨_,_,_,_,e8,_⟩=>aD.of e8) ?_ ?_
    ·rintro j y σ H8 hj ⟨kv,v10,rfl,s8,l8,t8,e8,hv,hl⟩
     obtain⟨r1,k1,rfl,ek,er⟩:=t8.item hj
     rw[ar] at ek
     cases zj:(dq kvs x n)[j]? with
     | none=>rw[zj] at ek; cases ek
     | some p' =>
      rw[zj] at ek
      cases ek
      have jl:=(cE.mp zj).1
      have fl:(dq kvs x n).length<=12:=b8 (gT _ _) (b8 (nN x n) n12)
      have tlen:=tl.len
      have nT8:∀ xs,H8 td≠some (.tup xs):=λxs w=>by rw[e8] at w; cases w
      refine⟨_,rfl,_,rfl,_,rfl,td,_,rfl,F8 e8 er ?_,?_⟩
      ·exact cA (show kv.length<=1212 by omega) (by rw[fG]; decide)
      have k9:∀ b,b≠td->upd H8 td (.dT (dC kv (au p') (.int i))) b=H8 b:=λb nb=>aj nb
      refine⟨_,_,rfl,s8.but htd k9,by rw[k9 lb ltd]; exact l8,t8.but nT8 k9,aF,λk=>?_,?_⟩
      ·rw[zU,dA,zj,bQ]
       show(k∈_ ++ [au p']->_)/\(k∉_ ++ [au p']->_)
       by_cases w:k=au p'
       ·rw[aP w]
        exact⟨λ_=>rfl,λh=>absurd (eK _ (bH.mpr w)) h⟩
       ·rw[aN w]
        refine⟨λh=>?_,λh=>(hv k).2 λh'=>h (pR _ h')⟩
        rcases gQ.mp h with h | h
        ·exact(hv k).1 h
        ·exact absurd (bH.mp h) w
      ·have:=J3 kv (au p') (.int i); omega
    ·rintro σ H8 ⟨kv,v10,rfl,s8,l8,t8,e8,hv,hl⟩
     rw[aI,lfs] at hl hv
     rw[cW] at hv
     exact⟨kv,_,_,_,_,_,_,_,_,rfl,s8,e8,tl.next zi sx n12 ok hv hl⟩
  rintro σ H2 ⟨kvs,v3,v4,v5,v6,v7,v8,v9,v10,rfl,s2,e2,tl⟩
  rw[aI] at tl
  have tab2:=tab.mono s2
  have e:oK ("-" : Str) (n:Int)=tx n (λ_=>45):=zW n
  refine⟨_,rfl,t,C,dx,_,_,rfl,tab2.ins,T.cl,T.nQ,rfl,_,_,rfl,rfl,by omega,by omega,by decide,?_⟩
  rw[e]
  change zn (y8 (fJ 2)) _ _ _ _ _
  refine Cg (td:=td) (kvs:=kvs) ⟨_,rfl,rfl,rfl⟩ (.inl e2) λo H3 e3 k3=>?_
  have s3:=s2.but htd k3
  refine Co (a:=td) (o:=o) (kvs:=kvs) (λi σ H4=>∃(Wx:Str) (v12 v13:Option V),σ=[some (.ref t),some (.ref pl),some (.ref td),v3,v4,v5,v6,v7,v8,v9,v10,some (.str Wx),v12,v13]/\aB H3 H4/\Wh rs n kvs i Wx) ⟨_,_,_,rfl,aB.refl _,Wh.start rs n kvs⟩ (λi σ H4 _ ⟨_,_,_,_,s4,_⟩=>s4 _ _ e3) ?_ ?_
  ·rintro i kk vv bb σ H4 hk ⟨Wx,v12,v13,rfl,s4,wh⟩ eb
   obtain⟨v0,hv0⟩:=tF.mp (oB hk)
   obtain⟨p,i0,x0,rfl,rfl,i0l,hx0,p1,p2,p3⟩:=tl.own _ _ hv0
   have sp:p.2=121∨p.2=110:=by
    have:=(hps x0 (bI hx0)).1.sgn p.1 p1
    rw[<- p2] at this
    rcases this with h | h | h
    ·exact .inl h
    ·exact .inr h
    ·exact absurd h p3
   refine⟨bb,_,rfl,bT.of eb,rfl,_,_,rfl,_,_,rfl,rfl,?_⟩
   exact⟨_,rfl,_,rfl,_,rfl,Wx,n,p.1,p.2,rfl,wh.pat.len,p1,by omega,_,_,_,rfl,s4,wh.next tl hk p1 sp⟩
  ·rintro σ H4 ⟨Wx,v12,v13,rfl,s4,wh⟩
   obtain⟨st,ag⟩:=wh.fin tl
   refine⟨_,rfl,_,rfl,t,dx,kp,bt,n,m,rs,Wx,rfl,tab.mono (s3.trans' s4),wh.pat,n12,st,rne,hrs,λz H5 rz bz az s5=>⟨ay (show 2<=100 by decide),λrp hrp=>?_⟩⟩
   refine k rp _ (s3.trans' (s4.trans' (s5.trans' (aB.new hrp)))) (.inl ⟨z,aF,rz,bz,λx hx i hi ni=>?_⟩)
   have a1:=ag x hx i hi ni
   rw[az i hi (by rw[a1]; exact ni),a1]
end
abbrev eR (a:Nat):Prop:=a=121∨a=110
def Cr (rs:List Str)(q r:Nat):Prop:=∀ a b,eR a->eR b->0 < aT rs q a r b
theorem wB {rs:List Str}{q r:Nat}:fN rs q r=true↔Cr rs q r:=by
 unfold fN kf Cr
 simp only[pV,List.all_nil,gE,id,decide_eq_true_eq,mO]
 constructor
 ·rintro⟨h1,h2,h3,h4⟩ a b (rfl | rfl) (rfl | rfl) <;> assumption
 ·intro h
  exact⟨h _ _ (.inr rfl) (.inr rfl),h _ _ (.inr rfl) (.inl rfl),h _ _ (.inl rfl) (.inr rfl),h _ _ (.inl rfl) (.inl rfl)⟩
theorem Cr.symm {rs:List Str}{q r:Nat}(h:Cr rs q r):Cr rs r q:=λa b ha hb=>by rw[m7]; exact h b a hb ha
def dU (rs:List Str)(q r s:Nat):Bool:=decide (0 < aT rs q 110 r s) && decide (0 < aT rs q 121 r s)
theorem yW {rs:List Str}{q r s:Nat}:dU rs q r s=true↔∀ a,eR a->0 < aT rs q a r s:=by
 unfold dU
 rw[gE,dX,dX]
 constructor
 ·rintro⟨h1,h2⟩ a (rfl | rfl) <;> assumption
 ·intro h; exact⟨h _ (.inr rfl),h _ (.inl rfl)⟩
theorem yV {rs:List Str}{q r s:Nat}(h:dU rs q r s=false):∃ a,eR a/\aT rs q a r s=0:=by
 unfold dU at h
 rw[Bool.and_eq_false_iff,decide_eq_false_iff_not,decide_eq_false_iff_not] at h
 rcases h with h | h
 ·exact⟨110,.inr rfl,by omega⟩
 ·exact⟨121,.inl rfl,by omega⟩
def fQ (rs:List Str)(q r:Nat):Nat:=if dU rs q r 110=true then (if dU rs q r 121=true then 45 else 110) else (if dU rs q r 121=true then 121 else 45)
def iD (rs:List Str)(n q:Nat):Str:=tx n (fQ rs q)
theorem NU (rs:List Str)(q r:Nat):fQ rs q r=121∨fQ rs q r=110∨fQ rs q r=45:=by
 unfold fQ
 split <;> split <;> simp
theorem LF (rs:List Str)(n q:Nat):dQ n (iD rs n q):=⟨ce _ _,λi hi=>by unfold iD; rw[bE hi]; exact NU rs q i⟩
section
variable {rs:List Str}{n:Nat}(hrs:∀ x∈rs,Row n x)
include hrs
theorem re {q r:Nat}(hr:r < n)(h:¬ fQ rs q r=45):eR (fQ rs q r)/\(∀ a,eR a->0 < aT rs q a r (fQ rs q r))/\∃ a,eR a/\∀ x∈rs,ch x q=a->ch x r=fQ rs q r:=by
 have go:∀ s s',eR s->(∀ c,eR c->¬ c=s'->c=s)->dU rs q r s=true->dU rs q r s'=false->eR s/\(∀ a,eR a->0 < aT rs q a r s)/\∃ a,eR a/\∀ x∈rs,ch x q=a->ch x r=s:=λs s' hs ne b b'=>by
  obtain⟨a,ha,z⟩:=yV b'
  exact⟨hs,yW.mp b,a,ha,λx hx e=>ne _ ((hrs x hx).bin r hr) λw=>m5.mp z x hx ⟨e,w⟩⟩
 unfold fQ at h ⊢
 cases b1:dU rs q r 110 <;> cases b2:dU rs q r 121 <;> simp only[b1,b2] at h ⊢
 ·exact absurd rfl h
 ·exact go 121 110 (.inl rfl) (λc hc w=>hc.resolve_right w) b2 b1
 ·exact go 110 121 (.inr rfl) (λc hc w=>hc.resolve_left w) b1 b2
 ·exact absurd rfl h
theorem NV {q r:Nat}(hq:q < n)(hr:r < n)(ho:cV rs q=true)(h:fQ rs q r=45):Cr rs q r∨bA rs q r=true:=by
 unfold fQ at h
 cases b1:dU rs q r 110 <;> cases b2:dU rs q r 121 <;> simp only[b1,b2] at h
 ·obtain⟨a,ha,za⟩:=yV b1
  obtain⟨b,hb,zb⟩:=yV b2
  obtain⟨⟨y,hy,ey⟩,⟨z,hz,ez⟩⟩:=r6.mp ho
  refine .inr ((jB hrs hq hr).mpr ?_)
  have na:∀ x∈rs,ch x q=a->ch x r=121:=λx hx e=>((hrs x hx).bin r hr).resolve_right λw=>m5.mp za x hx ⟨e,w⟩
  have nb:∀ x∈rs,ch x q=b->ch x r=110:=λx hx e=>((hrs x hx).bin r hr).resolve_left λw=>m5.mp zb x hx ⟨e,w⟩
  rcases ha with rfl | rfl <;> rcases hb with rfl | rfl
  ·exact absurd ((na z hz ez).symm.trans (nb z hz ez)) (by decide)
  ·refine .inl λx hx=>?_
   rcases(hrs x hx).bin q hq with e | e
   ·rw[na x hx e,e]
   ·rw[nb x hx e,e]
  ·refine .inr λx hx w=>?_
   rcases(hrs x hx).bin q hq with e | e
   ·have:=nb x hx e; omega
   ·have:=na x hx e; omega
  ·exact absurd ((na y hy ey).symm.trans (nb y hy ey)) (by decide)
 ·exact absurd h (by decide)
 ·exact absurd h (by decide)
 ·refine .inl λa b ha hb=>?_
  rcases hb with rfl | rfl
  ·exact yW.mp b2 a ha
  ·exact yW.mp b1 a ha
theorem CG {q:Nat}(hq:q < n)(ho:cV rs q=true):eh rs n (iD rs n q):=by
 intro r1 r2 h1 h2 n1 n2
 unfold iD at n1 n2 ⊢
 rw[bE h1] at n1 ⊢
 rw[bE h2] at n2 ⊢
 obtain⟨_,w1,a,ha,c1⟩:=re hrs h1 n1
 obtain⟨_,w2,b,hb,c2⟩:=re hrs h2 n2
 by_cases e:a=b
 ·subst e
  obtain⟨x,hx,x1,x2⟩:=bn.mp (w1 a ha)
  exact bn.mpr ⟨x,hx,x2,c2 x hx x1⟩
 ·obtain⟨x,hx,x1,x2⟩:=bn.mp (w1 b hb)
  exact bn.mpr ⟨x,hx,x2,c2 x hx x1⟩
theorem LG {q p:Nat}(h:Cr rs q p):¬ FA rs n (iD rs n q) (iD rs n p):=by
 rintro⟨r1,r2,h1,h2,n1,n2,z⟩
 unfold iD at n1 n2 z
 rw[bE h1] at n1 z
 rw[bE h2] at n2 z
 obtain⟨_,_,a,ha,c1⟩:=re hrs h1 n1
 obtain⟨_,_,b,hb,c2⟩:=re hrs h2 n2
 obtain⟨x,hx,x1,x2⟩:=bn.mp (h a b ha hb)
 exact m5.mp z x hx ⟨c1 x hx x1,c2 x hx x2⟩
end
structure pY (rs:List Str) (n:Nat) (qs:List Nat) (x:Str):Prop where
 row:Row n x
 bor:b6 rs n x
 fre:∀ q∈qs,∀ r,r < n->bA rs q r=false->∀ a,eR a->0 < aT rs q a r (ch x r)
theorem Cd {rs:List Str}{n q r:Nat}:r∈(bq rs n q).map (·.1)↔r < n/\bA rs q r=true:=by
 constructor
 ·intro h
  obtain⟨p,hp,rfl⟩:=cI.mp h
  obtain⟨r,a⟩:=p
  obtain⟨h1,h2⟩:=nJ hp
  refine⟨h1,?_⟩
  cases z:bA rs q r with
  | true=>rfl
  | false=>rw[m9.mpr z] at h2; cases h2
 ·rintro⟨h1,h2⟩
  cases z:dj rs q r with
  | none=>rw[m9.mp z] at h2; cases h2
  | some a=>exact cI.mpr ⟨(r,a),xn h1 z,rfl⟩
theorem vU {c:Nat}(h:eR c):eR (df c):=Bp h
theorem xh {c d:Nat}(hc:eR c)(hd:eR d)(h:¬ c=d):d=df c:=by
 rcases hc with rfl | rfl <;> rcases hd with rfl | rfl
 ·exact absurd rfl h
 ·rfl
 ·rfl
 ·exact absurd rfl h
theorem KN {c:Nat}(hc:eR c):¬ df c=c:=by
 rcases hc with rfl | rfl <;> decide
section
variable {rs:List Str}{n:Nat}(hrs:∀ x∈rs,Row n x)
include hrs
theorem MB {qs:List Nat}{z:Str}(hz:Row n z)(bz:b6 rs n z)(hq:∀ q∈qs,q < n/\cV rs q=true)(mz:∀ q∈qs,∀ i,i < n->¬ ch (iD rs n q) i=45->ch z i=ch (iD rs n q) i):pY rs n qs z:=by
 refine⟨hz,bz,λq hq' r hr nt a ha=>?_⟩
 by_cases c:fQ rs q r=45
 ·rcases NV hrs (hq q hq').1 hr (hq q hq').2 c with h | h
  ·exact h a _ ha (hz.bin r hr)
  ·rw[nt] at h; cases h
 ·have e:ch (iD rs n q) r=fQ rs q r:=by unfold iD; exact bE hr
  have m:=mz q hq' r hr (by rw[e]; exact c)
  rw[m,e]
  exact(re hrs hr c).2.1 a ha
theorem zc {q r s c:Nat}(hq:q < n)(hr:r < n)(ht:bA rs q r=true){d:Nat}(hd:eR d)(h:∀ a,eR a->0 < aT rs q a s c):0 < aT rs r d s c:=by
 rcases(jB hrs hq hr).mp ht with e | e
 ·obtain⟨x,hx,x1,x2⟩:=bn.mp (h d hd)
  exact bn.mpr ⟨x,hx,by rw[<- e x hx]; exact x1,x2⟩
 ·obtain⟨x,hx,x1,x2⟩:=bn.mp (h (df d) (vU hd))
  refine bn.mpr ⟨x,hx,?_,x2⟩
  have h1:=(hrs x hx).bin r hr
  have:=e x hx
  rw[x1] at this
  by_cases w:ch x r=d
  ·exact w
  ·exact absurd (xh hd h1 λz=>w z.symm).symm this
theorem MA {qs:List Nat}{q:Nat}{x:Str}(F:pY rs n qs x)(hq:q∈qs)(ql:q < n)(ho:cV rs q=true)(lt:∀ p∈qs,p < n)(cr:∀ p∈qs,p=q∨Cr rs q p):pY rs n qs (bM n ((bq rs n q).map (·.1)) x):=by
 have hx:=F.row
 have yes:∀ r,r < n->bA rs q r=true->ch (bM n ((bq rs n q).map (·.1)) x) r=df (ch x r):=λr hr h=>by
  unfold bM; rw[bE hr]; unfold gF; rw[aP (Cd.mpr ⟨hr,h⟩)]
 have no:∀ r,r < n->bA rs q r=false->ch (bM n ((bq rs n q).map (·.1)) x) r=ch x r:=λr hr h=>by
  unfold bM; rw[bE hr]; unfold gF; rw[aN (λw=>by rw[(Cd.mp w).2] at h; cases h)]
 have side:∀ r s,r < n->s < n->bA rs q r=true->bA rs q s=false->0 < aT rs r (df (ch x r)) s (ch x s):=λr s hr hs tr ts=>zc hrs ql hr tr (vU (hx.bin r hr)) (F.fre q hq s hs ts)
 refine⟨kH hx,λr s hr hs=>?_,λp hp r hr nt a ha=>?_⟩
 ·cases tr:bA rs q r <;> cases ts:bA rs q s
  ·rw[no r hr tr,no s hs ts]; exact F.bor r s hr hs
  ·rw[no r hr tr,yes s hs ts,m7]; exact side s r hs hr ts tr
  ·rw[yes r hr tr,no s hs ts]; exact side r s hr hs tr ts
  ·rw[yes r hr tr,yes s hs ts]
   have trs:=oH hrs hr ql hs (mU hrs ql hr tr) ts
   obtain⟨y,hy,y1,y2⟩:=bn.mp (F.bor r s hr hs)
   obtain⟨⟨o1,ho1,e1⟩,⟨o2,ho2,e2⟩⟩:=r6.mp (qG hrs ql hr tr ho)
   obtain⟨o,ho',eo⟩:∃ o∈rs,ch o r=df (ch x r):=by
    rcases vU (hx.bin r hr) with w | w
    ·exact⟨o2,ho2,by rw[w]; exact e2⟩
    ·exact⟨o1,ho1,by rw[w]; exact e1⟩
   refine bn.mpr ⟨o,ho',eo,?_⟩
   have bs:=(hrs o ho').bin s hs
   refine xh (hx.bin s hs) bs λw=>?_
   rcases(jB hrs hr hs).mp trs with e | e
   ·have h1:=e y hy; have h2:=e o ho'
    rw[y1,y2] at h1
    rw[eo,<- w] at h2
    exact KN (hx.bin r hr) (h2.trans h1.symm)
   ·have h1:=e y hy; have h2:=e o ho'
    rw[y1,y2] at h1
    rw[eo,<- w] at h2
    exact h2 (xh (hx.bin r hr) (hx.bin s hs) h1).symm
 ·cases tr:bA rs q r with
  | false=>rw[no r hr tr]; exact F.fre p hp r hr nt a ha
  | true =>
   rw[yes r hr tr]
   rcases cr p hp with e | e
   ·subst e; rw[nt] at tr; cases tr
   ·rw[m7]
    exact zc hrs ql hr tr (vU (hx.bin r hr)) λb hb=>e b a hb ha
end
abbrev qU:Stmt:=ak 23
abbrev uv:Stmt:=ak 71
theorem Cc (r:Int):∀ L:List Int,eF (.int r) (L.map V.int)=decide (r∈L)
 | []=>rfl
 | x :: L=>by
  show(eZ (.int x) (.int r) || eF (.int r) (L.map V.int))=_
  rw[Cc r L,i6,wY,dX,dX,bh]
  show(x == r)=true∨_↔_
  rw[beq_iff_eq]
  exact⟨λh=>h.imp Eq.symm id,λh=>h.imp Eq.symm id⟩
theorem Cs:∀ L:List Int,(L.map V.int).all hW=true
 | []=>rfl
 | x :: L=>Cs L
theorem Mi (xs:List V)(k:Nat):gA xs none (some (k:Int))=xs.take k:=by
 unfold gA
 have e:HT.sIx xs.length xs.length (some (k:Int))=min k xs.length:=by
  unfold HT.sIx
  simp only
  split <;> omega
 have e0:HT.sIx xs.length 0 none=0:=rfl
 rw[e,e0,List.drop_zero,Nat.sub_zero]
 by_cases c:k<=xs.length
 ·rw[Nat.min_eq_left c]
 ·rw[Nat.min_eq_right (by omega),cW,kE (by omega)]
theorem Ml (xs:List V)(k:Nat):gA xs (some (k:Int)) none=xs.drop k:=by
 unfold gA
 have e:HT.sIx xs.length 0 (some (k:Int))=min k xs.length:=by
  unfold HT.sIx
  simp only
  split <;> omega
 have e0:HT.sIx xs.length xs.length none=xs.length:=rfl
 rw[e,e0]
 by_cases c:k<=xs.length
 ·rw[Nat.min_eq_left c]
  exact kE (by rw[o0]; exact aY _)
 ·rw[Nat.min_eq_right (by omega),yv (aY _),yv (by omega)]
  simp
section
variable {P:Program}{w:World}{K:PySem.W.Frag}{mg:Str->Option Value}{base:Heap}{C fi fa ft fy fm fc:Addr}{gi ga gt gy gm gc:FuncData}{W BC BS fW fC fS BP fP BU fU:Addr}{gW gC gS gP gU:FuncData}
abbrev uX:Stmt:=ak 72
abbrev ue:Stmt:=ak 73
abbrev vB:Stmt:=ak 74
def fL (a b:Int):List aQ:=[.inl a,.inl b]
def vH (ns:List Int)(i:Nat):List (List aQ):=(ns.drop (i + 1)).map (fL (ns.getD i 0))
def lX (ns:List Int)(i:Nat):List (List aQ):=(List.range i).flatMap (vH ns)
theorem JD (ns:List Int)(i:Nat):(vH ns i).length<=ns.length:=by
 unfold vH
 rw[aI,o0]
 omega
theorem JC (ns:List Int)(i:Nat):(lX ns i).length<=i * ns.length:=rQ (JD ns) i
theorem JB {ns:List Int}{k:List aQ}(h:k∈lX ns ns.length):∃(i j:Nat) (a b:Int),i < j/\ns[i]? = some a/\ns[j]? = some b/\k=fL a b:=by
 obtain⟨i,hi,h⟩:=eS.mp h
 obtain⟨b,hb,rfl⟩:=cI.mp h
 have il:=bK.mp hi
 obtain⟨d,hd⟩:=ny.mp hb
 rw[yq] at hd
 refine⟨i,i + 1 + d,ns[i],b,by omega,bZ il,hd,?_⟩
 rw[ib,bZ il]
 rfl
theorem LA {ns:List Int}{i j:Nat}{a b:Int}(h:i < j)(hi:ns[i]? = some a)(hj:ns[j]? = some b):fL a b∈lX ns ns.length:=by
 refine eS.mpr ⟨i,bK.mpr (cE.mp hi).1,cI.mpr ⟨b,?_,?_⟩⟩
 ·refine bI (i:=j - (i + 1)) ?_
  rw[yq,<- hj]
  congr 1
  omega
 ·rw[ib,hi]
  rfl
def nM (rs:List Str)(q r:Nat):Nat->List V
 | 0=>[]
 | 1=>if dU rs q r 110=true then [s1 110] else []
 | _=>(if dU rs q r 110=true then [s1 110] else []) ++ (if dU rs q r 121=true then [s1 121] else [])
theorem NW (rs:List Str)(q r c:Nat):(nM rs q r c).length<=2:=by
 match c with
 | 0=>exact bX _
 | 1=>show(if dU rs q r 110=true then [s1 110] else []).length<=2; split <;> simp
 | c + 2=>show((if dU rs q r 110=true then [s1 110] else []) ++ (if dU rs q r 121=true then [s1 121] else [])).length<=2; split <;> split <;> simp
def bL (rs:List Str)(q r s:Nat):Nat->List Bool
 | 0=>[]
 | 1=>[decide (0 < aT rs q 110 r s)]
 | _=>[decide (0 < aT rs q 110 r s),decide (0 < aT rs q 121 r s)]
theorem EH (rs:List Str)(q r s c:Nat):(bL rs q r s c).length<=2:=by
 match c with
 | 0=>exact bX _
 | 1=>exact(by decide:1<=2)
 | c + 2=>exact aY _
def GY:Sp:=λvs H Q _=>iL λ(a:Addr) (ns:List Int)=>vs=[.ref a]/\H a=some (.lst (ns.map V.int))/\ns.length<=20/\∀ p H',H p=none->Acc H p H' (lX ns ns.length)->Q (.ref p) H'
abbrev O7:List Str:=["numbers"]
abbrev wN:List Str:=["numbers"]
theorem Hu:FnScope O7 wN (aS uX):={}
abbrev EY:List Str:=["at", "k", "l", "numbers"]
theorem xj:EY.Nodup:=by trivial
theorem Jo {f:Addr}{fd:FuncData}(D:Df K mg "pairs" uX wN f fd) (B:Bt mg) (M:Gm mg):aG P w K mg base (aH P w) 1 f fd wN (GY):=by
 refine D.F.okN Hu (λvs H Q E h=>?_) (λcdv A outer s H vs Q E hr h=>?_)
 ·obtain⟨a,ns,rfl,_⟩:=h
  rfl
 ·obtain⟨a,ns,rfl,ea,l20,k⟩:=h
  refine⟨_,aL (aX (vK (g:=(eW K 2 (cG (cB 0) (cG (cB 1) eX)))) (N':=EY) (fm:=[none,none,none,some 0]) rfl ⟨rfl,by trivial,by trivial,rfl,rfl,rfl⟩ (oa (by rfl) M.enum (aA (pv 0) aC)) (λ_ _ _ _=>(dF rfl (bF (aU (i:=0) xj rfl (Or.inl rfl)) (bF (aU (i:=1) xj rfl (Or.inl rfl)) dE)))) (λ_ _ _ _=>cU) (λ_ _ _ _ _=>(qx (wi:=vi K (tSl (xG K) (fJ 3) (zh (oJ (kL λi j=>.int (i + j)) (fJ 0) (tC (.int 1)))) zm)) rfl (λ_ _ z=>z) (cK (jq (r:=xG K) oO (pv 3) (jo (am dG (pv 0) aM)) jp)) (aU (i:=2) xj rfl (Or.inl rfl)) cU (qy (λ_ _ z=>z) (dO (aA (pv 1) (aA (pv 2) aC)))))))),?_⟩
  refine⟨_,rfl,a,rfl,⟨_,aD.of ea⟩,λp hp=>?_⟩
  refine xu (K:=K) (a:=a) (xs:=ns.map V.int) (λi σ H2=>∃ v0 v1 v2,σ=[v0,v1,v2,some (.ref a)]/\Acc H p H2 (lX ns i)) ⟨none,none,none,rfl,aB.new hp,[],aF,.nil⟩ (λi σ H2 _ ⟨_,_,_,_,a2⟩=>aD.of (a2.same _ _ ea)) ?_ ?_
  ·rintro i y T1 σ H2 hi hT1 ⟨v0,v1,v2,rfl,a2⟩
   rw[ar] at hi
   cases zi:ns[i]? with
   | none=>rw[zi] at hi; cases hi
   | some z =>
    rw[zi] at hi
    cases hi
    have il:=(cE.mp zi).1
    have a2:=a2.mono (aB.new (o:=.tup [.int i,.int z]) hT1)
    refine xt (bT.of aF) ?_
    generalize upd H2 T1 (.tup [.int i,.int z])=H2' at *
    refine⟨_,rfl,_,rfl,_,_,rfl,rfl,_,rfl,a,_,rfl,aD.of (a2.same _ _ ea),λb hb=>?_⟩
    have e1:(i:Int) + 1=((i + 1:Nat):Int):=by omega
    rw[e1,Ml,<- List.map_drop]
    have hbp:b≠p:=λw=>by obtain⟨_,_,e,_⟩:=a2; rw[w,e] at hb; cases hb
    have a3:=a2.mono (aB.new (o:=.lst ((ns.drop (i + 1)).map V.int)) hb)
    have eb:upd H2' b (.lst ((ns.drop (i + 1)).map V.int)) b=some (.lst ((ns.drop (i + 1)).map V.int)):=aF
    generalize upd H2' b (.lst ((ns.drop (i + 1)).map V.int))=H3 at *
    refine⟨b,rfl,⟨_,aD.of eb⟩,?_⟩
    have gD:ns.getD i 0=z:=by rw[ib,zi]; rfl
    refine vg (K:=K) (a:=b) (xs:=(ns.drop (i + 1)).map V.int) (λj σ H4=>∃ v2,σ=[some (.int i),some (.int z),v2,some (.ref a)]/\Acc H p H4 (lX ns i ++ ((ns.drop (i + 1)).take j).map (fL z))/\H4 b=some (.lst ((ns.drop (i + 1)).map V.int))) ⟨_,rfl,by rw[List.take_zero,List.map_nil,gX]; exact a3,eb⟩ (λi σ H4 _ ⟨_,_,_,s4⟩=>aD.of s4) ?_ ?_
    ·rintro j y σ H4 hj ⟨v2,rfl,a4,s4⟩
     rw[ar] at hj
     cases zj:(ns.drop (i + 1))[j]? with
     | none=>rw[zj] at hj; cases hj
     | some u =>
      rw[zj] at hj
      cases hj
      refine n8 ⟨_,rfl,_,rfl,ay (show 2<=100 by decide),λT2 hT2=>?_⟩
      obtain⟨ys,y1,y2,y3⟩:=a4.put (k:=fL z u) hp (aB.refl _) hT2
      refine⟨ys,y1,?_,_,rfl,?_,?_⟩
      ·rw[y2,cR,aI]
       have h1:=JC ns i
       have h2:i * ns.length<=20 * 20:=tG (by omega) l20
       have h3:((ns.drop (i + 1)).take j).length<=20:=by rw[cZ,o0]; omega
       exact cA (show _<=420 by omega) (by decide)
      ·rw[dA,zj,bQ,<- pU]
       exact y3
      ·rw[aj hbp,aj (λw=>by rw[w,hT2] at s4; cases s4)]
       exact s4
    ·rintro σ H4 ⟨v2,rfl,a4,s4⟩
     rw[aI,cW] at a4
     refine⟨_,_,_,rfl,?_⟩
     unfold lX
     rw[vq]
     unfold vH
     rw[gD]
     exact a4
  ·rintro σ H2 ⟨v0,v1,v2,rfl,a2⟩
   rw[aI] at a2
   exact k p H2 hp a2
def AX (C:Addr):Sp:=λvs H Q _=>gY λ(t dx kp bt:Addr) (n m:Nat) (rs:List Str) (q r:Nat)=>vs=[.ref t,.int q,.int r]/\TabAt C H t dx kp bt n m rs/\q < n/\r < n/\∀ H',aB H H'->Q (s1 (fQ rs q r)) H'
abbrev OT:List Str:=["table", "q", "r", "told"]
abbrev tE:List Str:=["table", "q", "r"]
theorem Ar:FnScope OT tE (aS vB):={}
abbrev Ev:List Str:=["sign", "table", "q", "r"]
theorem L4:Ev.Nodup:=by trivial
abbrev Eu:List Str:=["a", "table", "q", "r", "sign"]
theorem L3:Eu.Nodup:=by trivial
theorem KD {f:Addr}{fd:FuncData}(D:Df K mg "answer_with_both" vB tE f fd) (T:Tb K mg C fi fa ft fy fm fc gi ga gt gy gm gc) (Gc:aG P w K mg base (aH P w) 3 fc gc kC (lK C)) (B:Bt mg) (M:Gm mg):aG P w K mg base (aH P w) 4 f fd tE (AX C):=by
 refine D.F.okN Ar (λvs H Q E h=>?_) (λcdv A outer s H vs Q E hr h=>?_)
 ·obtain⟨t,dx,kp,bt,n,m,rs,q,r,rfl,_⟩:=h
  rfl
 ·obtain⟨t,dx,kp,bt,n,m,rs,q,r,rfl,tab,hq,hr',k⟩:=h
  obtain⟨tk,mS⟩:=M.signs
  have two:("ny" : Str).length=2:=by trivial
  refine⟨_,aK (JA (i:=3) (x0 := "sign") (N':=Ev) (fm:=[none,some 0,some 1,some 2]) rfl Ar.nd rfl rfl ⟨rfl,by trivial,rfl,λ_ _=>rfl,λ_=>rfl,by trivial,rfl,rfl,rfl⟩ (lY (kN (v:=.str "ny") (by rfl) mS ⟨tk,rfl⟩)) (λ_ _ _ _=>(aU (i:=0) L4 rfl (Or.inr rfl))) (λ_ _ _ _=>(eV (cm (bC (NG (K:=K) rfl rfl) (by rfl) B.all (by rfl) (aA (cS (N':=Eu) (fm:=[none,some 1,some 2,some 3,some 0]) rfl ⟨rfl,by trivial,by trivial,rfl,rfl,rfl⟩ (lY (kN (v:=.str "ny") (by rfl) mS ⟨tk,rfl⟩)) (λ_ _ _ _=>(aU (i:=0) L3 rfl (Or.inl rfl))) (λ_ _ _ _=>cU) (λ_ _ _ _=>(eO n5 (iA (pv 1) T.cl T.mc Gc (hr.mono (by decide)) T.bc .nil aJ (aA (pv 2) (aA (pv 0) (aA (pv 3) (aA (pv 4) aC))))) aM (ao _)))) aC))))) (λ_ _ _ _=>(pv 0)))
   (aL (aX (iB (aw cF (bC fO (by rfl) B.len d7 (aA (pv 3) aC)) aM (ao _)) (af bN (pv 3) aM (λ_ _=>rfl)) av))),?_⟩
  refine⟨_,rfl,λp hp=>?_⟩
  refine rb (x := "ny") (λc σ H2=>∃ v,σ=[v,some (.ref t),some (.int q),some (.int r)]/\aB H H2/\H2 p=some (.lst (nM rs q r c))) ⟨none,rfl,aB.new hp,aF⟩ ?_ ?_
  ·rintro c σ H2 hc ⟨v,rfl,s2,e2⟩
   rw[two] at hc
   obtain⟨s,hs,es,nx⟩:∃ s,eR s/\sg "ny" c=s1 s/\nM rs q r (c + 1)=nM rs q r c ++ (if dU rs q r s=true then [s1 s] else []):=by
    have hc':c=0∨c=1:=by omega
    rcases hc' with rfl | rfl
    ·exact⟨110,.inr rfl,rfl,rfl⟩
    ·exact⟨121,.inl rfl,rfl,rfl⟩
   rw[es]
   refine⟨_,rfl,λp2 hp2=>?_⟩
   have pos:∀ a:Nat,decide ((0:Int) < (aT rs q a r s:Nat))=decide (0 < aT rs q a r s):=λa=>nH.mpr ⟨λh=>by omega,λh=>by omega⟩
   refine rb (x := "ny") (λc σ H3=>∃ v,σ=[v,some (.ref t),some (.int q),some (.int r),some (s1 s)]/\aB H2 H3/\H3 p2=some (.lst ((bL rs q r s c).map V.bl))) ⟨none,rfl,aB.new hp2,aF⟩ ?_ ?_
   ·rintro c2 σ H3 hc2 ⟨v,rfl,s3,e3⟩
    rw[two] at hc2
    have hc':c2=0∨c2=1:=by omega
    have tab3:=tab.mono (s2.trans' s3)
    rcases hc' with rfl | rfl
    ·refine eN ⟨_,rfl,t,dx,_,rfl,tab3.ins,rfl,_,rfl,_,rfl,_,rfl,_,rfl,t,dx,kp,bt,n,m,rs,q,110,r,s,rfl,tab3,hq,hr',.inr rfl,hs,λH6 s6=>?_⟩
     refine⟨_,_,rfl,rfl,_,s6 _ _ e3,(by rw[aI]; exact cA (EH rs q r s _) (by decide)),_,rfl,bW hp2 (s3.trans' s6),?_⟩
     rw[aF]
     show some (HO.lst ([] ++ [V.bl (decide ((0:Int) < (aT rs q 110 r s:Nat)))]))=_
     rw[pos]
     rfl
    ·refine eN ⟨_,rfl,t,dx,_,rfl,tab3.ins,rfl,_,rfl,_,rfl,_,rfl,_,rfl,t,dx,kp,bt,n,m,rs,q,121,r,s,rfl,tab3,hq,hr',.inl rfl,hs,λH6 s6=>?_⟩
     refine⟨_,_,rfl,rfl,_,s6 _ _ e3,(by rw[aI]; exact cA (EH rs q r s _) (by decide)),_,rfl,bW hp2 (s3.trans' s6),?_⟩
     rw[aF]
     show some (HO.lst (_ ++ [V.bl (decide ((0:Int) < (aT rs q 121 r s:Nat)))]))=_
     rw[pos]
     rfl
   ·rintro σ H3 ⟨v,rfl,s3,e3⟩
    have e:bL rs q r s ("ny" : Str).length=bL rs q r s 2:=by rw[two]
    rw[e] at e3
    have e4:(bL rs q r s 2).all id=dU rs q r s:=by
     show(decide (0 < aT rs q 110 r s) && (decide (0 < aT rs q 121 r s) && true))=_
     rw[mO]
     rfl
    refine⟨p2,_,rfl,aD.of e3,_,rfl,?_⟩
    show if (bL rs q r s 2).all id=true then _ else _
    rw[e4]
    cases cb:dU rs q r s with
    | true =>
     rw[cb,aP rfl] at nx
     refine ax ⟨_,rfl,_,s3 _ _ e2,cA (NW rs q r _) (by decide),_,rfl,bW hp (s2.trans' s3),?_⟩
     rw[aF,nx]
    | false =>
     rw[cb,aN (by decide),gX] at nx
     refine aW ⟨_,rfl,s2.trans' s3,?_⟩
     rw[nx]
     exact s3 _ _ e2
  ·rintro σ H2 ⟨v,rfl,s2,e2⟩
   have e:nM rs q r ("ny" : Str).length=nM rs q r 2:=by rw[two]
   rw[e] at e2
   have k:=k H2 s2
   refine⟨_,rfl,p,_,rfl,.inl (aD.of e2),rfl,_,rfl,?_⟩
   unfold fQ at k
   have ea:nM rs q r 2=(if dU rs q r 110=true then [s1 110] else []) ++ (if dU rs q r 121=true then [s1 121] else []):=rfl
   rw[ea] at e2 ⊢
   cases b1:dU rs q r 110 <;> cases b2:dU rs q r 121 <;> simp only[b1,b2,aP,aN,mN,jM,iw] at e2 k ⊢
   ·exact aW k
   ·exact ax ⟨_,rfl,p,_,_,_,rfl,rfl,aD.of e2,rfl,k⟩
   ·exact ax ⟨_,rfl,p,_,_,_,rfl,rfl,aD.of e2,rfl,k⟩
   ·exact aW k
def AH (C:Addr):Sp:=λvs H Q _=>j7 λ(t dx kp bt:Addr) (n m:Nat) (rs:List Str) (q:Nat)=>vs=[.ref t,.int q]/\TabAt C H t dx kp bt n m rs/\q < n/\n<=12/\∀ H',aB H H'->Q (.str (iD rs n q)) H'
abbrev OE:List Str:=["table", "lowest"]
abbrev sW:List Str:=["table", "lowest"]
theorem IB:FnScope OE sW (aS ue):={}
abbrev Ed:List Str:=["question", "table", "lowest"]
theorem Kl:Ed.Nodup:=by trivial
theorem Jy {f fw:Addr}{fd gw:FuncData}(D:Df K mg "leave_to_turn" ue sW f fd) (Da:Df K mg "answer_with_both" vB tE fw gw) (Ga:aG P w K mg base (aH P w) 4 fw gw tE (AX C)) (T:Tb K mg C fi fa ft fy fm fc gi ga gt gy gm gc) (B:Bt mg):aG P w K mg base (aH P w) 5 f fd sW (AH C):=by
 refine D.F.okN IB (λvs H Q E h=>?_) (λcdv A outer s H vs Q E hr h=>?_)
 ·obtain⟨t,dx,kp,bt,n,m,rs,q,rfl,_⟩:=h
  rfl
 ·obtain⟨t,dx,kp,bt,n,m,rs,q,rfl,tab,hq,n12,k⟩:=h
  refine⟨_,aL (aX (hG wK wJ wI rB av (aA (cS (N':=Ed) (fm:=[none,some 0,some 1]) rfl ⟨rfl,by trivial,by trivial,rfl,rfl,rfl⟩ (gH (by rfl) B.range (aA (dY (pv 0) rfl) aC)) (λ_ _ _ _=>(aU (i:=0) Kl rfl (Or.inl rfl))) (λ_ _ _ _=>cU) (λ_ _ _ _=>(aO Da Ga (hr.mono (by decide)) aJ (aA (pv 1) (aA (pv 2) (aA (pv 0) aC)))))) aC))),?_⟩
  refine⟨rfl,_,rfl,t,C,dx,_,_,rfl,tab.ins,T.cl,T.nQ,rfl,_,rfl,by omega,by omega,λp' hp'=>?_⟩
  have en:((n:Nat):Int).toNat=n:=by omega
  rw[en]
  refine kB (λi σ H4=>∃ v,σ=[v,some (.ref t),some (.int q)]/\aB H H4/\H4 p'=some (.lst ((List.range i).map λj=>s1 (fQ rs q j)))) ⟨none,rfl,aB.new hp',aF⟩ ?_ ?_
  ·rintro i σ H4 hi ⟨v,rfl,s4,e4⟩
   rw[j6]
   refine eN ⟨_,rfl,_,rfl,_,rfl,t,dx,kp,bt,n,m,rs,q,i,rfl,tab.mono s4,hq,hi,λH6 s6=>?_⟩
   refine⟨_,s6 _ _ e4,h9 _ _ (by omega),_,rfl,bW hp' (s4.trans' s6),?_⟩
   rw[aF,<- iu]
  ·rintro σ H4 ⟨v,rfl,s4,e4⟩
   refine⟨_,p',(List.range n).map λj=>(⟨#[fQ rs q j]⟩:Str),rfl,rfl,?_,by decide,?_,?_⟩
   ·rw[gR]
    exact aD.of e4
   ·rw[rL,aI,dk]; omega
   ·rw[qD]
    exact k H4 s4
abbrev qm:Stmt:=ak 70
theorem DV {rs:List Str}{L:List Nat}{k l:Nat}:qk k l∈fH rs L L.length↔k < l/\l < L.length/\fN rs (L.getD k 0) (L.getD l 0)=true:=by
 have qk_eq:∀{a b c d:Nat},qk a b=qk c d->a=c/\b=d:=λ{a b c d} h=>by
  unfold qk at h
  simp at h
  omega
 constructor
 ·intro h
  obtain⟨a,ha,h⟩:=eS.mp h
  obtain⟨d,hd,h⟩:=eS.mp h
  unfold ke at h
  split at h
  ·rename_i c
   obtain⟨e1,e2⟩:=qk_eq (bH.mp h)
   have h1:=bK.mp ha
   have h2:=bK.mp hd
   subst e1 e2
   exact⟨by omega,by omega,c⟩
  ·cases h
 ·rintro⟨h1,h2,h3⟩
  refine eS.mpr ⟨k,bK.mpr (by omega),eS.mpr ⟨l - (k + 1),bK.mpr (by omega),?_⟩⟩
  unfold ke
  rw[show k + 1 + (l - (k + 1))=l by omega,aP h3]
  exact bH.mpr rfl
def bP (rs:List Str)(n:Nat)(i:Int):Nat:=(aR rs n).getD i.toNat 0
def wW (H:Hp)(p:Addr)(rs:List Str)(n:Nat)(ns:List Int):Prop :=
 (∃ z,H p=some (.tup [.str "row",.str z])/\pY rs n (ns.map (bP rs n)) z/\∀ a∈ns,∀ b∈ns,a=b∨Cr rs (bP rs n a) (bP rs n b)) ∨
 ∃ k l:Int,H p=some (.tup [.str "bar",.int k,.int l])/\k∈ns/\l∈ns/\k < l/\fN rs (bP rs n k) (bP rs n l)=false
theorem wW.mono {H H':Hp}{p:Addr}{rs:List Str}{n:Nat}{ns:List Int}(h:wW H p rs n ns)(s:aB H H'):wW H' p rs n ns:=by
 rcases h with⟨z,e,r⟩ | ⟨k,l,e,r⟩
 ·exact .inl ⟨z,s _ _ e,r⟩
 ·exact .inr ⟨k,l,s _ _ e,r⟩
theorem J2 (a b c d:Int):(cn (fL a b)).pyq (cn (fL c d))=(decide (a=c) && decide (b=d)):=by
 have e:(cn (fL a b)).pyq (cn (fL c d))=((a == c) && ((b == d) && true)):=rfl
 rw[e,mO]
 rfl
theorem xw {rs:List Str}{n:Nat}{z:Int}(h0:0<=z)(h1:z < ((aR rs n).length:Nat)):cL ((aR rs n).map iN) z=some (iN (bP rs n z))/\(aR rs n)[z.toNat]? = some (bP rs n z):=by
 obtain⟨k,rfl⟩:∃ k:Nat,z=k:=⟨z.toNat,by omega⟩
 have hk:k < (aR rs n).length:=by omega
 have e:(aR rs n)[k]? = some (bP rs n (k:Int)):=by
  unfold bP
  rw[show((k:Int)).toNat=k by omega,ib,bZ hk]
  rfl
 refine⟨dv ?_,?_⟩
 ·rw[ar,e]; rfl
 ·rw[show((k:Int)).toNat=k by omega]; exact e
theorem jw {rs:List Str}{n:Nat}{z:Int}(h0:0<=z)(h1:z < ((aR rs n).length:Nat)):bP rs n z < n/\cV rs (bP rs n z)=true/\dh rs (bP rs n z)=true:=by
 have:=bI (xw h0 h1).2
 unfold aR at this
 rw[cY,bK] at this
 exact⟨this.1,(m3.mp this.2).1,this.2⟩
end
theorem Ad {H:Hp}{sh:Addr}{rs:List Str}{n:Nat}{z:Int}(hrs:∀ x∈rs,Row n x)(h:ja H sh (cD rs n))(h0:0<=z)(h1:z < ((aR rs n).length:Nat)):∃(bs:List Addr) (b:Addr) (as:List Addr) (a0:Addr),H sh=some (.lst (bs.map V.ref))/\cL (bs.map V.ref) z=some (.ref b)/\H b=some (.lst (as.map V.ref))/\cL (as.map V.ref) 0=some (.ref a0)/\H a0=some (.tup [.int (bP rs n z),s1 121])/\cH H as ((bq rs n (bP rs n z)).map au):=by
 obtain⟨bs,e,l,g⟩:=h
 obtain⟨k,rfl⟩:∃ k:Nat,z=k:=⟨z.toNat,by omega⟩
 have lb:bs.length=(aR rs n).length:=by rw[l]; unfold cD; rw[aI]
 have hk:k < bs.length:=by omega
 have eb:bs[k]? = some bs[k]:=bZ hk
 have lo:=(xw (rs:=rs) (n:=n) (z:=(k:Int)) h0 h1).2
 rw[show((k:Int)).toNat=k by omega] at lo
 have el:(cD rs n)[k]? = some (bq rs n (bP rs n k)):=by unfold cD; rw[ar,lo]; rfl
 obtain⟨as,e1,t1⟩:=g k _ _ eb el
 have ok:=jw (rs:=rs) (n:=n) (z:=(k:Int)) h0 h1
 obtain⟨tl,ht⟩:=yT hrs ok.1 ok.2.2
 cases as with
 | nil=>rw[ht] at t1; exact absurd t1.1 (by simp)
 | cons a0 r =>
  refine⟨bs,bs[k],a0 :: r,a0,e,dv (by rw[ar,eb]; rfl),e1,(show cL _ ((0:Nat):Int)=_ from dv rfl),?_,t1⟩
  have:=t1.2 0 a0 (au (bP rs n k,121)) rfl (by rw[ht]; rfl)
  exact this
section
variable {P:Program}{w:World}{K:PySem.W.Frag}{mg:Str->Option Value}{base:Heap}{C fi fa ft fy fm fc:Addr}{gi ga gt gy gm gc:FuncData}{W BC BS fW fC fS:Addr}{gW gC gS:FuncData}
end
abbrev qa:Stmt:=ak 48
section
variable {P:Program}{w:World}{K:PySem.W.Frag}{mg:Str->Option Value}{base:Heap}{C fi fa ft fy fm fc:Addr}{gi ga gt gy gm gc:FuncData}
def wv (C:Addr):Sp:=λvs H Q _=>gY λ(t dx kp bt pl:Addr) (n m:Nat) (rs ps:List Str)=>vs=[.ref t,.ref pl]/\TabAt C H t dx kp bt n m rs/\H pl=some (.lst (ps.map V.str))/\(∀ x∈ps,dQ n x/\eh rs n x)/\ps.length<=100/\1<=n/\n<=12/\rs≠[]/\(∀ y∈rs,Row n y)/\∀ p H',aB H H'->Ew H' p rs n ps->Q (.ref p) H'
abbrev OC:List Str:=["table", "patterns", "pattern", "k"]
abbrev nZ:List Str:=["table", "patterns"]
theorem uE:FnScope OC nZ (aS qa):={}
theorem BZ {f fp fc' fg fj:Addr}{fd gp gc' gg gj:FuncData}(D:Df K mg "meeting" qa nZ f fd) (Dp:Df K mg "check_pattern" mo fV fp gp) (Gp:aG P w K mg base (aH P w) 4 fp gp fV qN) (Dc:Df K mg "check_filled" qq ["table"] fc' gc') (Dg:Df K mg "gaps" lU cX fg gg) (Gg:aG P w K mg base (aH P w) 5 fg gg cX (oN C))
  (Dj:Df K mg "joined" qj sj fj gj) (Gj:aG P w K mg base (aH P w) 6 fj gj sj (AK C)) (T:Tb K mg C fi fa ft fy fm fc gi ga gt gy gm gc) (M:Gm mg):aG P w K mg base (aH P w) 7 f fd nZ (wv C):=by
 refine D.F.okN uE (λvs H Q E h=>?_) (λcdv A outer s H vs Q E hr h=>?_)
 ·obtain⟨t,dx,kp,bt,pl,n,m,rs,ps,rfl,_⟩:=h
  rfl
 ·obtain⟨t,dx,kp,bt,pl,n,m,rs,ps,rfl,tab,epl,hps,l100,n1,n12,h0,hrs,k⟩:=h
  refine⟨_,aK (dD d8 rfl (cK (pv 1)) (aU (i:=2) uE.nd rfl (Or.inl rfl))
   (aL (bd (aO Dp Gp (hr.mono (by decide)) aJ (aA (pv 2) (aA (dY (pv 0) rfl) aC))))))
   (aK (bd (aO Dc (Bk Dc T M) (hr.mono (by decide)) aJ (aA (pv 0) aC)))
   (aK (dD d8 rfl (oa (by rfl) M.enum (aA (pv 1) aC)) (dF rfl (bF (aU (i:=3) uE.nd rfl (Or.inl rfl)) (bF (aU (i:=2) uE.nd rfl (Or.inl rfl)) dE)))
   (aL (bJ (oY (aO Dg Gg (hr.mono (by decide)) aJ (aA (pv 0) (aA (pv 2) aC))) (λ_=>rfl)) (aL (aX (dO (aA av (aA (pv 3) (aA (pv 3) aC)))))) bO)))
   (aL (aX (aO Dj Gj (hr.mono (by decide)) aJ (aA (pv 0) (aA (pv 1) aC))))))),?_⟩
  refine⟨_,rfl,pl,rfl,⟨_,aD.of epl⟩,?_⟩
  refine jN (K:=K) (a:=pl) (xs:=ps.map V.str) (λi σ H2=>∃ v2,σ=[some (.ref t),some (.ref pl),v2,none]/\aB H H2) ⟨_,rfl,aB.refl _⟩ (λi σ H2 _ ⟨_,_,s2⟩=>aD.of (s2 _ _ epl)) ?_ ?_
  ·rintro i y σ H2 hi ⟨v2,rfl,s2⟩
   rw[ar] at hi
   cases zi:ps[i]? with
   | none=>rw[zi] at hi; cases hi
   | some x =>
    rw[zi] at hi
    cases hi
    have px:=(hps x (bI zi)).1
    exact⟨_,rfl,_,rfl,t,C,dx,_,_,rfl,(tab.mono s2).ins,T.cl,T.nQ,rfl,x,n,rfl,by rw[px.len]; omega,n1,n12,px,λH3 s3=>⟨_,rfl,s2.trans' s3⟩⟩
  rintro σ H2 ⟨v2,rfl,s2⟩
  refine⟨_,rfl,t,dx,kp,bt,n,m,rs,rfl,tab.mono s2,h0,?_⟩
  refine⟨_,rfl,pl,rfl,⟨_,aD.of (s2 _ _ epl)⟩,?_⟩
  refine yA (K:=K) (a:=pl) (xs:=ps.map V.str) (λi σ H3=>∃ v2 v3,σ=[some (.ref t),some (.ref pl),v2,v3]/\aB H H3) ⟨_,_,rfl,s2⟩ (λi σ H2 _ ⟨_,_,_,s2⟩=>aD.of (s2 _ _ epl)) ?_ ?_
  ·rintro i y TT σ H3 hi hTT ⟨v2,v3,rfl,s3⟩
   rw[ar] at hi
   cases zi:ps[i]? with
   | none=>rw[zi] at hi; cases hi
   | some x =>
    rw[zi] at hi
    cases hi
    obtain⟨px,sx⟩:=hps x (bI zi)
    have sT:=s3.trans' (aB.new (o:=.tup [.int i,.str x]) hTT)
    refine⟨TT,_,rfl,bT.of aF,rfl,_,_,rfl,_,_,rfl,rfl,?_⟩
    refine⟨_,rfl,_,rfl,t,dx,kp,bt,n,m,rs,x,rfl,tab.mono sT,px,n12,λgp' H4 hgp acc=>?_⟩
    rw[vm sx] at acc
    obtain⟨s4,as,ea,ta⟩:=acc
    have:as=[]:=mJ.mp ta.1
    subst this
    exact⟨false,.inl ⟨_,aD.of ea,rfl⟩,aW ⟨_,_,rfl,sT.trans' s4⟩⟩
  ·rintro σ H3 ⟨v2,v3,rfl,s3⟩
   exact⟨_,rfl,_,rfl,t,dx,kp,bt,pl,n,m,rs,ps,rfl,tab.mono s3,s3 _ _ epl,hps,l100,n1,n12,h0,hrs,λp H' s' mt=>k p H' (s3.trans' s') mt⟩
def GS:Sp:=λvs H Q _=>ig λ(z:Int) (a:Addr) (ys:List Int)=>vs=[.int z,.ref a]/\H a=some (.lst (ys.map V.int))/\z∉ys/\Q .non H
abbrev O1:List Str:=["number", "told"]
abbrev sN:List Str:=["number", "told"]
theorem Hm:FnScope O1 sN (aS qU):={}
theorem Jb {f:Addr}{fd:FuncData}(D:Df K mg "check_untold" qU sN f fd):aG P w K mg base (aH P w) 1 f fd sN GS:=by
 refine D.F.okN Hm (λvs H Q E h=>?_) (λcdv A outer s H vs Q E hr h=>?_)
 ·obtain⟨z,a,ys,rfl,_⟩:=h
  rfl
 ·obtain⟨z,a,ys,rfl,ea,c,k⟩:=h
  refine⟨_,aL (bJ (aw n4 (pv 0) (pv 1) (by rfl)) (aL hC) bO),?_⟩
  refine⟨_,rfl,_,rfl,a,_,rfl,.inl (aD.of ea),rfl,Cs ys,_,rfl,?_⟩
  show if eF (.int z) (ys.map V.int)=true then _ else _
  rw[Cc,cy c]
  exact aW k
def HP:Sp:=λvs H Q _=>ig λ(a:Addr) (ns:List Int) (m:Nat)=>vs=[.ref a,.int m]/\H a=some (.lst (ns.map V.int))/\(∀ z∈ns,0<=z/\z < (m:Int))/\ns.Nodup/\∀ H',aB H H'->Q .non H'
abbrev OQ:List Str:=["numbers", "many", "at", "number"]
abbrev wP:List Str:=["numbers", "many"]
theorem xB:FnScope OQ wP (aS uv):={}
theorem KA {f fu:Addr}{fd gu:FuncData}(D:Df K mg "check_numbers" uv wP f fd) (Du:Df K mg "check_untold" qU sN fu gu) (M:Gm mg):aG P w K mg base (aH P w) 2 f fd wP HP:=by
 refine D.F.okN xB (λvs H Q E h=>?_) (λcdv A outer s H vs Q E hr h=>?_)
 ·obtain⟨a,ns,m,rfl,_⟩:=h
  rfl
 ·obtain⟨a,ns,m,rfl,ea,rng,nd,k⟩:=h
  refine⟨_,aL (dD d8 rfl (oa (by rfl) M.enum (aA (pv 0) aC)) (dF rfl (bF (aU (i:=2) xB.nd rfl (Or.inl rfl)) (bF (aU (i:=3) xB.nd rfl (Or.inl rfl)) dE)))
   (aK (bJ (dw (jH (aw iQ (pv 3) aM (ao _)) (jk (aw BO (pv 3) (pv 1) (ao _))))) (aL hC) bO)
   (aL (bd (aO Du (Jb Du) (hr.mono (by decide)) aJ (aA (pv 3) (aA (jq oO (pv 0) jp (jo (pv 2))) aC))))))),?_⟩
  refine⟨_,rfl,a,rfl,⟨_,aD.of ea⟩,?_⟩
  refine yA (K:=K) (a:=a) (xs:=ns.map V.int) (λi σ H2=>∃ v2 v3,σ=[some (.ref a),some (.int m),v2,v3]/\aB H H2) ⟨_,_,rfl,aB.refl _⟩ (λi σ H2 _ ⟨_,_,_,s2⟩=>aD.of (s2 _ _ ea)) ?_ ?_
  ·rintro i y TT σ H2 hi hTT ⟨v2,v3,rfl,s2⟩
   rw[ar] at hi
   cases zi:ns[i]? with
   | none=>rw[zi] at hi; cases hi
   | some z =>
    rw[zi] at hi
    cases hi
    have sT:=s2.trans' (aB.new (o:=.tup [.int i,.int z]) hTT)
    obtain⟨r0,r1⟩:=rng z (bI zi)
    refine⟨TT,_,rfl,bT.of aF,rfl,_,_,rfl,_,_,rfl,rfl,?_⟩
    refine⟨_,rfl,_,_,rfl,rfl,_,rfl,?_⟩
    show if decide (z < 0)=true then _ else _
    rw[cy (by omega)]
    refine aW ⟨_,rfl,_,rfl,_,_,rfl,rfl,_,rfl,?_⟩
    show if decide (z ≥ (m:Int))=true then _ else _
    rw[cy (by omega)]
    refine aW ⟨_,rfl,_,rfl,_,rfl,_,rfl,a,_,rfl,aD.of (sT _ _ ea),λp hp=>?_⟩
    have eA:gA (ns.map V.int) none (some (i:Int))=(ns.take i).map V.int:=by rw[Mi,<- tI]
    rw[eA]
    refine⟨z,p,ns.take i,rfl,aF,λh=>?_,_,_,rfl,sT.trans' (aB.new hp)⟩
    obtain⟨j,hj⟩:=List.getElem?_of_mem h
    rw[List.getElem?_take] at hj
    split at hj
    ·rename_i ji
     have e:=(List.getElem?_inj (cE.mp hj).1 nd).mp (hj.trans zi.symm)
     omega
    ·cases hj
  ·rintro σ H2 ⟨v2,v3,rfl,s2⟩
   exact k H2 s2
def AO (C:Addr):Sp:=λvs H Q _=>gY λ(t dx kp bt nl:Addr) (n m:Nat) (rs:List Str) (ns:List Int)=>vs=[.ref t,.ref nl]/\TabAt C H t dx kp bt n m rs/\H nl=some (.lst (ns.map V.int))/\ns.length<=20/\1<=n/\n<=12/\(∀ y∈rs,Row n y)/\(∀ z∈ns,0<=z/\z < ((aR rs n).length:Int))/\ns.Nodup/\rs≠[]/\∀ p H',aB H H'->wW H' p rs n ns->Q (.ref p) H'
abbrev ON:List Str:=["table", "numbers", "lowest", "crossed", "k", "l"]
abbrev su:List Str:=["table", "numbers"]
theorem qQ:FnScope ON su (aS qm):={}
abbrev Eo:List Str:=["number", "table", "lowest"]
theorem Kz:Eo.Nodup:=by trivial
theorem K4 {f fg fn fu fx fp fm' fl:Addr}{fd gg gn gu gx gp gm' gl:FuncData}(D:Df K mg "free_at" qm su f fd) (Dg:Df K mg "lowest_questions" oT ["table"] fg gg) (Gg:aG P w K mg base (aH P w) 7 fg gg ["table"] (tu C)) (Dn:Df K mg "check_numbers" uv wP fn gn) (Du:Df K mg "check_untold" qU sN fu gu)
  (Dx:Df K mg "crossing" ur t9 fx gx) (Gx:aG P w K mg base (aH P w) 8 fx gx t9 (AR C)) (Dp:Df K mg "pairs" uX wN fp gp) (Dm:Df K mg "meeting" qa nZ fm' gm') (Gm':aG P w K mg base (aH P w) 7 fm' gm' nZ (wv C)) (Dl:Df K mg "leave_to_turn" ue sW fl gl) (Gl:aG P w K mg base (aH P w) 5 fl gl sW (AH C)) (T:Tb K mg C fi fa ft fy fm fc gi ga gt gy gm gc) (B:Bt mg) (M:Gm mg):aG P w K mg base (aH P w) 9 f fd su (AO C):=by
 refine D.F.okN qQ (λvs H Q E h=>?_) (λcdv A outer s H vs Q E hr h=>?_)
 ·obtain⟨t,dx,kp,bt,nl,n,m,rs,ns,rfl,_⟩:=h
  rfl
 ·obtain⟨t,dx,kp,bt,nl,n,m,rs,ns,rfl,tab,en,l20,n1,n12,hrs,rng,nd,h0,k4⟩:=h
  have hu3:(A.deeper (envOfC "free_at" (aS qm) s.heap.objs.size f cdv)).units + (1 + 3) < cLine:=by have:=hr.units; omega
  refine⟨_,aK (aq (i:=2) qQ.nd rfl (Or.inr rfl) (aO Dg Gg (hr.mono (by decide)) aJ (aA (pv 0) aC)))
   (aK (bd (aO Dn (KA Dn Du M) (hr.mono (by decide)) aJ (aA (pv 1) (aA (bC fO (by rfl) B.len d7 (aA (pv 2) aC)) aC))))
   (aK (aq (i:=3) qQ.nd rfl (Or.inl rfl) (aO Dx Gx (hr.mono (by decide)) aJ (aA (pv 0) aC)))
   (aK (dD d8 rfl (cK (aO Dp (Jo Dp B M) (hr.mono (by decide)) aJ (aA (bC NB (by rfl) M.sorted (by rfl) (aA (pv 1) aC)) aC))) (dF rfl (bF (aU (i:=4) qQ.nd rfl (Or.inl rfl)) (bF (aU (i:=5) qQ.nd rfl (Or.inl rfl)) dE)))
   (aL (bJ (aw (JT (k:=3) hu3) (dO (aA (pv 4) (aA (pv 5) aC))) (pv 3) (by rfl)) (aL (aX (dO (aA av (aA (pv 4) (aA (pv 5) aC)))))) bO)))
   (aL (aX (aO Dm Gm' (hr.mono (by decide)) aJ (aA (pv 0) (aA (cS (N':=Eo) (fm:=[none,some 0,some 2]) rfl ⟨rfl,by trivial,by trivial,rfl,rfl,rfl⟩ (cK (pv 1)) (λ_ _ _ _=>(aU (i:=0) Kz rfl (Or.inl rfl))) (λ_ _ _ _=>cU) (λ_ _ _ _=>(aO Dl Gl (hr.mono (by decide)) aJ (aA (pv 1) (aA (af (r:=jh K) bN (pv 2) (pv 0) (λ_ _=>rfl)) aC))))) aC)))))))),?_⟩
  refine⟨_,rfl,t,dx,kp,bt,n,m,rs,rfl,tab,hrs,n1,n12,λlw H1 hlw s1' e1=>?_⟩
  refine⟨_,rfl,_,rfl,lw,_,rfl,.inl (aD.of e1),nl,ns,(aR rs n).length,by rw[aI]; rfl,s1' _ _ en,rng,nd,λH2 s2=>?_⟩
  have s02:=s1'.trans' s2
  refine⟨_,rfl,t,dx,kp,bt,n,m,rs,rfl,tab.mono s02,hrs,n1,n12,λcx H3 hcx acc=>?_⟩
  obtain⟨s3,as,eas,tas⟩:=acc
  have s03:=s02.trans' s3
  refine⟨_,rfl,nl,ns,rfl,aD.of (s03 _ _ en),by omega,λsp ns' hp hpw hsp=>?_⟩
  have s4:=aB.new (o:=.lst (ns'.map V.int)) hsp
  refine⟨sp,ns',rfl,aF,by rw[hp.length_eq]; exact l20,λpp H5 hpp acc5=>?_⟩
  obtain⟨s5,bs,ebs,tbs⟩:=acc5
  have s05:=s03.trans' (s4.trans' s5)
  have s35:=s4.trans' s5
  refine⟨pp,rfl,⟨_,aD.of ebs⟩,?_⟩
  have lt:∀ i j a b,i < j->ns'[i]? = some a->ns'[j]? = some b->a < b:=λi j a b hij ha hb=>by
   obtain⟨li,ei⟩:=cE.mp ha
   obtain⟨lj,ej⟩:=cE.mp hb
   have h1:=List.pairwise_iff_getElem.mp hpw i j li lj hij
   have h2:=List.pairwise_iff_getElem.mp (hp.nodup_iff.mpr nd) i j li lj hij
   rw[ei,ej] at h1 h2
   omega
  have C12:(fH rs (aR rs n) (aR rs n).length).length<=600:=by
   have h1:=DU rs (aR rs n) (aR rs n).length
   have h2:(aR rs n).length * (aR rs n).length<=12 * 12:=tG (b8 (iU rs n) n12) (b8 (iU rs n) n12)
   omega
  refine jN (K:=K) (a:=pp) (xs:=bs.map V.ref) (λi σ H6=>∃ v4 v5,σ=[some (.ref t),some (.ref nl),some (.ref lw),some (.ref cx),v4,v5]/\aB H5 H6/\∀ key∈(lX ns' ns'.length).take i,key∈fH rs (aR rs n) (aR rs n).length) ⟨_,_,rfl,aB.refl _,(λkey h=>by cases h)⟩ (λi σ H6 _ ⟨_,_,_,s6,_⟩=>aD.of (s6 _ _ ebs)) ?_ ?_
  ·rintro i y σ H6 hi ⟨v4,v5,rfl,s6,ck⟩
   obtain⟨r1,key,rfl,ek,er⟩:=(tbs.mono s6).item hi
   obtain⟨i0,j0,a,b,ij,ha,hb,rfl⟩:=JB (bI ek)
   have ab:=lt i0 j0 a b ij ha hb
   have ma:a∈ns:=hp.mem_iff.mp (bI ha)
   have mb:b∈ns:=hp.mem_iff.mp (bI hb)
   refine⟨r1,_,rfl,bT.of er,rfl,_,_,rfl,_,_,rfl,rfl,?_⟩
   refine⟨_,rfl,_,rfl,ay (show 2<=100 by decide),λT2 hT2=>?_⟩
   have s7:=aB.new (o:=.tup [.int a,.int b]) hT2
   have s37:=s35.trans' (s6.trans' s7)
   refine⟨_,rfl,cx,_,(fH rs (aR rs n) (aR rs n).length).map cn,cn (fL a b),rfl,aD.of (s37 _ _ eas),by rw[aI,aI]; exact tas.1,yH aF (show(2:Nat)<=5000 by decide),λi x d h1 h2=>?_,_,rfl,?_⟩
   ·obtain⟨r2,k2',rfl,ek2,er2⟩:=(tas.mono s37).item h1
    rw[ar,ek2] at h2
    cases h2
    have m2:=bI ek2
    refine⟨yH er2 (Mo m2),?_⟩
    have:=yI [k2']
    have e:Dt.deep.deeps ([k2'].map cn)=max (cn k2').deep 0:=rfl
    rw[e] at this
    omega
   ·show if (!((fH rs (aR rs n) (aR rs n).length).map cn).any λc=>c.pyq (cn (fL a b)))=true then _ else _
    have any_iff:(((fH rs (aR rs n) (aR rs n).length).map cn).any λc=>c.pyq (cn (fL a b)))=true↔fL a b∈fH rs (aR rs n) (aR rs n).length:=by
     rw[List.any_eq_true]
     constructor
     ·rintro⟨c,hc,e⟩
      obtain⟨kk,hk,rfl⟩:=cI.mp hc
      obtain⟨a1,h1,h3⟩:=eS.mp hk
      obtain⟨d1,h2,h3⟩:=eS.mp h3
      unfold ke at h3
      split at h3
      ·rw[bH.mp h3] at e hk
       have e:(cn (fL a1 ((a1 + 1 + d1:Nat):Int))).pyq (cn (fL a b))=true:=e
       rw[J2,gE,dX,dX] at e
       rw[<- e.1,<- e.2]
       exact hk
      ·cases h3
     ·intro h
      exact⟨cn (fL a b),cI.mpr ⟨_,h,rfl⟩,xL _⟩
    cases ca:(((fH rs (aR rs n) (aR rs n).length).map cn).any λc=>c.pyq (cn (fL a b))) with
    | false =>
     have no:¬ fL a b∈fH rs (aR rs n) (aR rs n).length:=λw=>by rw[any_iff.mpr w] at ca; cases ca
     refine ax ⟨_,rfl,_,rfl,ay (show 3<=100 by decide),λrp hrp=>?_⟩
     refine k4 rp _ (s05.trans' (s6.trans' (s7.trans' (aB.new hrp)))) (.inr ⟨a,b,aF,ma,mb,ab,?_⟩)
     cases cc:fN rs (bP rs n a) (bP rs n b) with
     | false=>rfl
     | true =>
      exfalso
      refine no ?_
      obtain⟨ka,rfl⟩:∃ k:Nat,a=k:=⟨a.toNat,by have:=(rng a ma).1; omega⟩
      obtain⟨kb,rfl⟩:∃ k:Nat,b=k:=⟨b.toNat,by have:=(rng b mb).1; omega⟩
      have:=(rng (kb:Int) mb).2
      exact DV.mpr ⟨by omega,by omega,cc⟩
    | true =>
     refine aW ⟨_,_,rfl,s6.trans' s7,λkey hk=>?_⟩
     rw[dA,ek] at hk
     rcases gQ.mp hk with hk | hk
     ·exact ck key hk
     ·rw[bH.mp hk]; exact any_iff.mp ca
  rintro σ H6 ⟨v4,v5,rfl,s6,ck⟩
  rw[aI,tbs.1,cW] at ck
  have allc:∀ a∈ns,∀ b∈ns,a=b∨Cr rs (bP rs n a) (bP rs n b):=by
   have go:∀ a∈ns,∀ b∈ns,∀ i j,i < j->ns'[i]? = some a->ns'[j]? = some b->Cr rs (bP rs n a) (bP rs n b):=λa ma b mb i j hij ha hb=>by
    have h:=ck _ (LA hij ha hb)
    obtain⟨ka,rfl⟩:∃ k:Nat,a=k:=⟨a.toNat,by have:=(rng a ma).1; omega⟩
    obtain⟨kb,rfl⟩:∃ k:Nat,b=k:=⟨b.toNat,by have:=(rng b mb).1; omega⟩
    exact wB.mp (DV.mp h).2.2
   intro a ma b mb
   obtain⟨i,hi⟩:=ny.mp (hp.mem_iff.mpr ma)
   obtain⟨j,hj⟩:=ny.mp (hp.mem_iff.mpr mb)
   by_cases e:i=j
   ·subst e
    rw[hi] at hj
    cases hj
    exact .inl rfl
   ·by_cases l:i < j
    ·exact .inr (go a ma b mb i j l hi hj)
    ·exact .inr (go b mb a ma j i (by omega) hj hi).symm
  have s06:=s05.trans' s6
  have e6:=(s2.trans' (s3.trans' (s35.trans' s6))) _ _ e1
  refine⟨_,rfl,_,rfl,nl,rfl,⟨_,aD.of (s06 _ _ en)⟩,λlb hlb=>?_⟩
  refine eI (K:=K) (a:=nl) (xs:=ns.map V.int) (λj σ H7=>∃ v,σ=[v,some (.ref t),some (.ref lw)]/\aB H6 H7/\H7 lb=some (.lst (((ns.take j).map λz=>iD rs n (bP rs n z)).map V.str))) ⟨none,rfl,aB.new hlb,aF⟩ (λi σ H7 _ ⟨_,_,s7,_⟩=>aD.of (s7 _ _ (s06 _ _ en))) ?_ ?_
  ·rintro j y σ H7 hj ⟨v,rfl,s7,e7⟩
   rw[ar] at hj
   cases zj:ns[j]? with
   | none=>rw[zj] at hj; cases hj
   | some z =>
    rw[zj] at hj
    cases hj
    have mz:=bI zj
    have r0:=(rng z mz).1
    have r1:=(rng z mz).2
    refine eN ⟨_,rfl,_,rfl,_,rfl,lw,_,_,_,rfl,rfl,aD.of (s7 _ _ e6),(xw r0 r1).1,t,dx,kp,bt,n,m,rs,bP rs n z,rfl,tab.mono (s06.trans' s7),(jw r0 r1).1,n12,λH8 s8=>?_⟩
    refine⟨_,s8 _ _ e7,?_,_,rfl,bW hlb (s7.trans' s8),?_⟩
    ·rw[aI,aI,cZ]
     exact cA (show _<=20 by omega) (by decide)
    ·rw[aF,dA,zj,bQ,bQ]
     rfl
  rintro σ H7 ⟨v,rfl,s7,e7⟩
  rw[aI,cW] at e7
  have s07:=s06.trans' s7
  have pst:∀ x∈ns.map λz=>iD rs n (bP rs n z),dQ n x/\eh rs n x:=λx hx=>by
   obtain⟨z,hz,rfl⟩:=cI.mp hx
   have:=jw (rs:=rs) (n:=n) (rng z hz).1 (rng z hz).2
   exact⟨LF rs n _,CG hrs this.1 this.2.1⟩
  refine⟨t,dx,kp,bt,lb,n,m,rs,_,rfl,tab.mono s07,e7,pst,by rw[aI]; omega,n1,n12,h0,hrs,λp H8 s8 mt=>k4 p H8 (s07.trans' s8) ?_⟩
  rcases mt with⟨z,ez,rz,bz,mz⟩ | ⟨i,j,x,y,_,ij,hx,hy,cl⟩
  ·refine .inl ⟨z,ez,MB hrs rz bz (λq hq=>?_) (λq hq i hi ne=>?_),allc⟩
   ·obtain⟨a,ha,rfl⟩:=cI.mp hq
    have:=jw (rs:=rs) (n:=n) (rng a ha).1 (rng a ha).2
    exact⟨this.1,this.2.1⟩
   ·obtain⟨a,ha,rfl⟩:=cI.mp hq
    exact mz _ (cI.mpr ⟨a,ha,rfl⟩) i hi ne
  ·exfalso
   rw[ar] at hx hy
   cases zi:ns[i]? with
   | none=>rw[zi] at hx; cases hx
   | some a =>
    cases zj:ns[j]? with
    | none=>rw[zj] at hy; cases hy
    | some b =>
     rw[zi] at hx
     rw[zj] at hy
     cases hx
     cases hy
     have ma:=bI zi
     have mb:=bI zj
     rcases allc a ma b mb with e | e
     ·subst e
      have lo:=jw (rs:=rs) (n:=n) (rng a ma).1 (rng a ma).2
      obtain⟨r1,r2,h1,h2,n1',n2',z⟩:=cl
      exact absurd z (Nat.ne_of_gt (CG hrs lo.1 lo.2.1 r1 r2 h1 h2 n1' n2'))
     ·exact LG hrs e cl
abbrev lS:Stmt:=ak 99
abbrev qW:Stmt:=ak 100
abbrev ua:Stmt:=ak 101
theorem DN {K:PySem.W.Frag}{H:Hp}{p:Addr}{a b:Int}{c d:Str}(h:H p=some (.lst [.int a,.int b,.str c,.str d])):cM K H (.ref p) (.lst [.int a,.int b,.str c,.str d]):=by
 refine .lst (aD.of h) rfl (show 4<=5000 by decide) λi u v hu hv=>?_
 match i,hu,hv with
 | 0,hu,hv=>cases hu; cases hv; exact .int _
 | 1,hu,hv=>cases hu; cases hv; exact .int _
 | 2,hu,hv=>cases hu; cases hv; exact .str _
 | 3,hu,hv=>cases hu; cases hv; exact .str _
 | i + 4,hu,hv=>cases hu
theorem MM (a b:Int)(c d:Str):(Dt.lst [.int a,.int b,.str c,.str d]).eqb (.lst [.int a,.int b,.str c,.str d])=true:=by
 show((a == a) && ((b == b) && ((c == c) && ((d == d) && true))))=true
 rw[iH,iH,iH,iH]; rfl
theorem vx (a:Str):(Dt.str a).eqb (.str a)=true:=by show(a == a)=true; exact iH _
structure As (C:Addr) (H:Hp) (t dx kp bt q:Addr) (n m:Nat) (rs:List Str):Prop where
 tab:TabAt C H t dx kp bt n m rs
 eq:H q=some (.lst (rs.map V.str))
 rows:∀ y∈rs,Row n y
 ne:rs≠[]
 n1:1<=n
 n12:n<=12
theorem As.mono {C:Addr}{H H':Hp}{t dx kp bt q:Addr}{n m:Nat}{rs:List Str}(h:As C H t dx kp bt q n m rs)(s:aB H H'):As C H' t dx kp bt q n m rs:=⟨h.tab.mono s,s _ _ h.eq,h.rows,h.ne,h.n1,h.n12⟩
abbrev Ru (rs:List Str)(n:Nat)(x:Str):Prop:=Row n x/\b6 rs n x
def oM:Sp:=λvs H Q _=>kF λ(q:Addr) (n:Nat) (rs:List Str) (x:Str)=>vs=[.ref q,.str x]/\H q=some (.lst (rs.map V.str))/\(∀ y∈rs,Row n y)/\rs≠[]/\n<=12/\Ru rs n x/\∀ H',aB H H'->Q (.bl true) H'
abbrev OM:List Str:=["_law_rows_here", "_law_row"]
abbrev jT:List Str:=["_law_rows_here", "_law_row"]
theorem IJ:FnScope OM jT (aS lS):={}
theorem vT {f fl:Addr}{fd gl:FuncData}(D:Df K mg "_law_is" lS jT f fd) (Dl:Df K mg "_law_lacks" qe nW fl gl) (Gl:aG P w K mg base (aH P w) 2 fl gl nW (wy K)) (B:Bt mg):aG P w K mg base (aH P w) 3 f fd jT oM:=by
 refine D.F.okN IJ (λvs H Q E h=>?_) (λcdv A outer s H vs Q E hr h=>?_)
 ·obtain⟨q,n,rs,x,rfl,_⟩:=h
  rfl
 ·obtain⟨q,n,rs,x,rfl,eq,hrs,h0,n12,⟨rx,bx⟩,k⟩:=h
  have hu:(A.deeper (envOfC "_law_is" (aS lS) s.heap.objs.size f cdv)).units < cLine:=by have:=hr.units; omega
  refine⟨_,aL (aX (jr (bC jP (by rfl) B.isi (by rfl) (aA (pv 1) (aA (jI (by rfl) B.str (v:=.ty "str") (u:=.type "str") (by rfl) rfl) aC))) (jr (eO cF (bC j4 (by rfl) B.len d7 (aA (pv 1) aC)) (bC j4 (by rfl) B.len d7 (aA (af bN (pv 0) aM (λ_ _=>rfl)) aC)) (ao _)) (lZ (eO (xV hu) (aO Dl Gl (hr.mono (by decide)) aJ (aA (pv 0) (aA (pv 1) aC))) (cT aC) (ao _)))))),?_⟩
  cases rs with
  | nil=>exact absurd rfl h0
  | cons r0 rr =>
   have r0l:=(hrs r0 eJ).len
   refine⟨_,rfl,_,.str, "str",true,rfl,trivial,rfl,_,rfl,ax ?_⟩
   refine⟨_,rfl,_,rfl,ay (show x.length<=100 by rw[rx.len]; omega),_,rfl,q,_,_,_,rfl,rfl,aD.of eq,(show cL _ ((0:Nat):Int)=some (.str r0) from dv rfl),_,rfl,ay (show r0.length<=100 by rw[r0l]; omega),rfl,_,rfl,?_⟩
   show if decide (V.int (x.length:Nat)=V.int (r0.length:Nat))=true then _ else _
   rw[rx.len,r0l,bR rfl]
   refine ax ?_
   refine⟨_,rfl,_,rfl,q,n,_,x,rfl,aD.of eq,hrs,n12,rx,λlp H7 hlp acc=>?_⟩
   rw[xy bx] at acc
   obtain⟨s7,as,ea,ta⟩:=acc
   have:as=[]:=mJ.mp ta.1
   subst this
   exact⟨ay (show 0<=100 by decide),λpn hpn=>⟨lp,pn,_,rfl,rfl,aD.of (aB.new hpn _ _ ea),aD.of aF,k _ (s7.trans' (aB.new hpn))⟩⟩
theorem yb {K:PySem.W.Frag}{te:TE}{p q lb:Addr}{zs:List Str}{H:Hp}{Q:Hp->Prop}(ep:H p=some (.lst (zs.map V.str)))(lz:zs.length<=5000)(hlb:H lb=none)(step:∀ z∈zs,∀ H2,aB H H2->∀ R:V->Hp->Prop,(∀ H',aB H2 H'->R (.bl true) H')->te [some (.str z),some (.ref q)] H2 R)
  (hd:∀ H' (bl:List Bool),aB H H'->H' lb=some (.lst (bl.map V.bl))->bl.all id=true->Q H'):iO (mM K p) lb (cB 0) mV te [none,some (.ref q)] (upd H lb (.lst [])) Q:=by
 refine eI (K:=K) (a:=p) (xs:=zs.map V.str) (λj σ H4=>∃ v bl,σ=[v,some (.ref q)]/\aB H H4/\H4 lb=some (.lst ((bl:List Bool).map V.bl))/\bl.length=j/\bl.all id=true) ⟨none,[],rfl,aB.new hlb,aF,rfl,rfl⟩ (λi σ H4 _ ⟨_,_,_,s4,_⟩=>aD.of (s4 _ _ ep)) ?_ ?_
 ·rintro j y σ H4 hj ⟨v,bl,rfl,s4,e4,l4,a4⟩
  rw[ar] at hj
  cases zj:zs[j]? with
  | none=>rw[zj] at hj; cases hj
  | some z =>
   rw[zj] at hj
   cases hj
   have jl:=(cE.mp zj).1
   refine eN (step z (bI zj) H4 s4 _ λH5 s5=>⟨_,s5 _ _ e4,?_,_,bl ++ [true],rfl,bW hlb (s4.trans' s5),?_,?_,?_⟩)
   ·rw[aI,l4,fG]; omega
   ·rw[aF,bQ]; rfl
   ·rw[cR,l4]; rfl
   ·rw[List.all_append,a4]; rfl
 ·rintro σ H4 ⟨v,bl,rfl,s4,e4,l4,a4⟩
  exact hd H4 bl s4 e4 a4
def AA (C:Addr):Sp:=λvs H Q _=>wX λ(t dx kp bt q sh:Addr) (n m:Nat) (rs:List Str) (x y z:Str)=>vs=[.ref t,.ref q,.ref sh,.str x,.str y,.str z]/\As C H t dx kp bt q n m rs/\ja H sh (cD rs n)/\Ru rs n x/\Ru rs n y/\Ru rs n z/\∀ H',aB H H'->Q (.bl true) H'
abbrev O6:List Str:=["_law_made", "_law_rows_here", "_law_sheaves", "_law_one", "_law_two", "_law_three", "_law_far", "_law_told", "_law_near_here"]
abbrev sR:List Str:=["_law_made", "_law_rows_here", "_law_sheaves", "_law_one", "_law_two", "_law_three"]
theorem uD:FnScope O6 sR (aS qW):={}
abbrev EX:List Str:=["_law_row", "_law_rows_here"]
theorem Ki:EX.Nodup:=by trivial
abbrev EW:List Str:=["_law_sheaf", "_law_one"]
theorem Kh:EW.Nodup:=by trivial
abbrev EV:List Str:=["_law_row", "_law_rows_here"]
theorem Kg:EV.Nodup:=by trivial
theorem Jn {f fa' fw fs fe fi' ft' fl fn fm' fo:Addr}{fd ga' gw gs ge gi' gt' gl gn gm' go:FuncData}(D:Df K mg "_law_paths" qW sR f fd) (Da:Df K mg "_law_apart" qh nn fa' ga') (Ga:aG P w K mg base (aH P w) 1 fa' ga' nn (wz K)) (Dw:Df K mg "way" uN sM fw gw) (Gw:aG P w K mg base (aH P w) 10 fw gw sM (zy C)) (Ds:Df K mg "steps" uQ sP fs gs) (Gs:aG P w K mg base (aH P w) 8 fs gs sP (A3 C))
  (De:Df K mg "_law_same" mf Ps fe ge) (Di:Df K mg "_law_is" lS jT fi' gi') (Gi:aG P w K mg base (aH P w) 3 fi' gi' jT oM) (Dt:Df K mg "_law_turned" qc nh ft' gt') (Gt:aG P w K mg base (aH P w) 2 ft' gt' nh (wx K)) (Dl:Df K mg "_law_lacks" qe nW fl gl) (Gl:aG P w K mg base (aH P w) 2 fl gl nW (wy K))
  (Dn:Df K mg "neighbours" qZ nY fn gn) (Gn:aG P w K mg base (aH P w) 8 fn gn nY (wu C)) (Dm:Df K mg "middle" uc pJ fm' gm') (Gm':aG P w K mg base (aH P w) 8 fm' gm' pJ (AE C)) (Do:Df K mg "_law_go" mh Pg fo go) (B:Bt mg):aG P w K mg base (aH P w) 11 f fd sR (AA C):=by
 refine D.F.okN uD (λvs H Q E h=>?_) (λcdv A outer s H vs Q E hr h=>?_)
 ·obtain⟨t,dx,kp,bt,q,sh,n,m,rs,x,y,z,rfl,_⟩:=h
  rfl
 ·obtain⟨t,dx,kp,bt,q,sh,n,m,rs,x,y,z,rfl,F,es,⟨rx,bx⟩,⟨ry,bY⟩,⟨rz,bz⟩,k⟩:=h
  have hrs:=F.rows
  have n1:=F.n1
  have n12:=F.n12
  have hu:(A.deeper (envOfC "_law_paths" (aS qW) s.heap.objs.size f cdv)).units < cLine:=by have:=hr.units; omega
  refine⟨_,aK (aq (i:=6) uD.nd rfl (Or.inl rfl) (bC fO (by rfl) B.len d7 (aA (aO Da Ga (hr.mono (by decide)) aJ (aA (pv 2) (aA (pv 3) (aA (pv 4) aC)))) aC)))
   (aK (aq (i:=7) uD.nd rfl (Or.inl rfl) (aO Dw Gw (hr.mono (by decide)) aJ (aA (pv 0) (aA (pv 3) (aA (pv 4) aC)))))
   (aK (bJ (eD (cm (aO De (kR De B 3) (hr.mono (by decide)) aJ (aA (cT (aA (aO Ds Gs (hr.mono (by decide)) aJ (aA (pv 0) (aA (pv 3) (aA (pv 4) aC)))) (aA (bC fO (by rfl) B.len d7 (aA (pv 7) aC)) (aA (af bN (pv 7) aM (λ_ _=>rfl)) (aA (af bN (pv 7) (vJ tX aM) (λ_ _=>rfl)) aC))))) (aA (cT (aA (pv 6) (aA (am dG (pv 6) aM) (aA (pv 3) (aA (pv 4) aC))))) aC))))) (aL (aX hJ)) bO)
   (aK (bJ (eD (cm (bC (j5 rfl) (by rfl) B.all (by rfl) (aA (cS (N':=EX) (fm:=[none,some 1]) rfl ⟨rfl,by trivial,by trivial,rfl,rfl,rfl⟩ (cK (pv 7)) (λ_ _ _ _=>(aU (i:=0) Ki rfl (Or.inl rfl))) (λ_ _ _ _=>cU) (λ_ _ _ _=>(aO Di Gi (hr.mono (by decide)) aJ (aA (pv 1) (aA (pv 0) aC))))) aC)))) (aL (aX hJ)) bO)
   (aK (oZ (i:=8) (N':=EW) (fm:=[none,some 3]) rfl uD.nd rfl rfl ⟨rfl,by trivial,by trivial,rfl,rfl,rfl⟩ (cK (pv 2)) (λ_ _ _ _=>(aU (i:=0) Kh rfl (Or.inl rfl))) (λ_ _ _ _=>cU) (λ_ _ _ _=>(aO Dt Gt (hr.mono (by decide)) aJ (aA (pv 1) (aA (pv 0) aC)))))
   (aK (bJ (eD (cm (aO De (kR De B 3) (hr.mono (by decide)) aJ (aA (aO Dn Gn (hr.mono (by decide)) aJ (aA (pv 0) (aA (pv 3) aC))) (aA (cS (N':=EV) (fm:=[none,some 1]) rfl ⟨rfl,by trivial,by trivial,rfl,rfl,rfl⟩ (cK (pv 8)) (λ_ _ _ _=>(aU (i:=0) Kg rfl (Or.inl rfl))) (λ_ _ _ _=>(eV (aw (r:=B2 K) (xV hu) (aO Dl Gl (hr.mono (by decide)) aJ (aA (pv 1) (aA (pv 0) aC))) (cT aC) (ao _)))) (λ_ _ _ _=>(pv 0))) aC))))) (aL (aX hJ)) bO)
   (aL (aX (aO De (kR De B 3) (hr.mono (by decide)) aJ (aA (aO Dm Gm' (hr.mono (by decide)) aJ (aA (pv 0) (aA (pv 3) (aA (pv 4) (aA (pv 5) aC))))) (aA (aO Do (rA Do B) (hr.mono (by decide)) aJ (aA (pv 3) (aA (pv 4) (aA (pv 5) aC)))) aC)))))))))),?_⟩
  refine⟨_,rfl,_,rfl,_,rfl,sh,n,rs,x,y,rfl,es,hrs,rx,ry,n12,λpa xs H1 hpa s1' ea la=>?_⟩
  refine⟨pa,_,rfl,.inl (aD.of ea),?_⟩
  rw[la]
  have F1:=F.mono s1'
  refine⟨_,rfl,_,rfl,_,rfl,t,dx,kp,bt,n,m,rs,x,y,rfl,F1.tab,hrs,rx,bx,ry,bY,n1,n12,λpw us H2 hpw s2 ew wk lu=>?_⟩
  have s02:=s1'.trans' s2
  have F2:=F.mono s02
  have d12:dfc rs n x y<=12:=b8 (DH rs n x y) n12
  have hd0:cL ((us ++ [y]).map V.str) 0=some (.str x):=(show cL _ ((0:Nat):Int)=_ from dv (by rw[ar,wk.head]; rfl))
  have hdl:cL ((us ++ [y]).map V.str) (-1)=some (.str y):=by
   rw[bQ]
   exact NY _ _
  refine⟨_,rfl,_,rfl,_,rfl,t,dx,kp,bt,n,m,rs,x,y,rfl,F2.tab,hrs,rx,bx,ry,bY,n1,n12,λH3 s3=>?_⟩
  have ew3:=s3 _ _ ew
  refine⟨_,rfl,pw,_,rfl,.inl (aD.of ew3),_,rfl,pw,_,_,_,rfl,rfl,aD.of ew3,hd0,_,rfl,_,rfl,pw,_,_,_,rfl,rfl,aD.of ew3,hdl,ay (show 4<=100 by decide),λg hg=>?_⟩
  have el:(((us ++ [y]).map V.str).length:Int)=(dfc rs n x y:Int) + 1:=by rw[aI,cR,lu]; rfl
  rw[el]
  have s4:=aB.new (o:=.lst [.int (dfc rs n x y:Nat),.int ((dfc rs n x y:Int) + 1),.str x,.str y]) hg
  refine⟨_,rfl,_,rfl,_,_,rfl,rfl,_,rfl,_,rfl,ay (show 4<=100 by decide),λg2 hg2=>?_⟩
  have s5:=aB.new (o:=.lst [.int (dfc rs n x y:Nat),.int ((dfc rs n x y:Int) + 1),.str x,.str y]) hg2
  refine⟨_,_,_,_,rfl,DN (s5 _ _ aF),DN aF,(show 1 + max 0 (max 0 (max 0 (max 0 0)))<=2 by decide),λH6 s6=>⟨_,rfl,?_⟩⟩
  rw[MM]
  refine aW ?_
  have s36:=s3.trans' (s4.trans' (s5.trans' s6))
  have s06:=s02.trans' s36
  have ew6:=s36 _ _ ew
  have F6:=F.mono s06
  clear s4 s5 s6 hg hg2 el
  have step:∀ z,Ru rs n z->∀ H7,aB H H7->∀ R:V->Hp->Prop,(∀ H',aB H7 H'->R (.bl true) H')->qI oM [] E0 (h8 (fJ 1) (h8 (fJ 0) jC)) [some (.str z),some (.ref q)] H7 R:=λz hz H7 s7 R k7=>⟨_,rfl,_,rfl,q,n,rs,z,rfl,s7 _ _ F.eq,hrs,F.ne,n12,hz,k7⟩
  refine⟨_,rfl,pw,rfl,⟨_,aD.of ew6⟩,λlb hlb=>?_⟩
  refine yb (K:=K) (zs:=us ++ [y]) ew6 (by rw[cR,lu]; show _ + 1<=_; omega) hlb (λz hz H7 s7 R k7=>step z (wk.good z hz) H7 (s06.trans' s7) R k7) λH7 bl s7 e7 a7=>⟨lb,bl,rfl,aD.of e7,_,rfl,?_⟩
  show if (!bl.all id)=true then _ else _
  rw[a7]
  refine aW ?_
  have s07:=s06.trans' s7
  obtain⟨bs,ebs,lbs,gbs⟩:=es.mono s07
  refine⟨_,rfl,sh,rfl,⟨_,aD.of ebs⟩,λlc hlc=>?_⟩
  have lbn:(cD rs n).length<=12:=by unfold cD; rw[aI]; exact b8 (iU rs n) n12
  refine eI (K:=K) (a:=sh) (xs:=bs.map V.ref) (λj σ H8=>∃ v,σ=[v,some (.str x)]/\aB H7 H8/\H8 lc=some (.lst ((((cD rs n).take j).map λks=>bM n (ks.map (·.1)) x).map V.str))) ⟨none,rfl,aB.new hlc,aF⟩ (λi σ H8 _ ⟨_,_,s8,_⟩=>aD.of (s8 _ _ ebs)) ?_ ?_
  ·rintro j u σ H8 hj ⟨v,rfl,s8,e8⟩
   rw[ar] at hj
   cases zj:bs[j]? with
   | none=>rw[zj] at hj; cases hj
   | some b =>
    rw[zj] at hj
    cases hj
    have jl:=(cE.mp zj).1
    have el:(cD rs n)[j]? = some (cD rs n)[j]:=bZ (by omega)
    obtain⟨as,e1,t1⟩:=gbs j b _ zj el
    obtain⟨l0,_,ek⟩:=cI.mp (List.getElem_mem (l:=cD rs n) (n:=j) (by omega))
    refine eN ⟨_,rfl,_,rfl,b,as,n,(cD rs n)[j],x,rfl,rx,n12,aD.of (s8 _ _ e1),t1.mono s8,by rw[<- ek]; exact wD rs n l0,λp hp=>by rw[<- ek] at hp; exact(nJ (a:=p.2) hp).1,?_⟩
    refine⟨_,e8,?_,_,rfl,bW hlc s8,?_⟩
    ·rw[aI,aI,cZ]
     exact cA (show _<=12 by omega) (by decide)
    ·rw[aF,dA,el,bQ,bQ]
     rfl
  rintro σ H8 ⟨v,rfl,s8,e8⟩
  rw[aI,lbs,cW] at e8
  have s08:=s07.trans' s8
  refine⟨_,rfl,_,rfl,t,dx,kp,bt,n,m,rs,x,rfl,(F.mono s08).tab,hrs,rx,bx,n1,n12,λpn H9 hpn s9 en=>?_⟩
  have s09:=s08.trans' s9
  have e9:=s9 _ _ e8
  have rT:∀ z∈(cD rs n).map λks=>bM n (ks.map (·.1)) x,Row n z:=λz hz=>by
   obtain⟨ks,_,rfl⟩:=cI.mp hz
   exact kH rx
  have nb:hV rs n x=((cD rs n).map λks=>bM n (ks.map (·.1)) x).filter (eY rs n):=rfl
  have lT:((cD rs n).map λks=>bM n (ks.map (·.1)) x).length<=12:=by rw[aI]; exact lbn
  generalize ((cD rs n).map λks=>bM n (ks.map (·.1)) x)=Tl at *
  refine⟨_,rfl,lc,rfl,⟨_,aD.of e9⟩,λld hld=>?_⟩
  refine eI (K:=K) (a:=lc) (xs:=Tl.map V.str) (λj σ HA=>∃ v,σ=[v,some (.ref q)]/\aB H9 HA/\HA ld=some (.lst (((Tl.take j).filter (eY rs n)).map V.str))) ⟨none,rfl,aB.new hld,aF⟩ (λi σ HA _ ⟨_,_,sA,_⟩=>aD.of (sA _ _ e9)) ?_ ?_
  ·rintro j u σ HA hj ⟨v,rfl,sA,eA⟩
   rw[ar] at hj
   cases zj:Tl[j]? with
   | none=>rw[zj] at hj; cases hj
   | some zz =>
    rw[zj] at hj
    cases hj
    have rzz:=rT zz (bI zj)
    have sn:(Tl.take (j + 1)).filter (eY rs n)=(Tl.take j).filter (eY rs n) ++ [zz].filter (eY rs n):=by
     rw[dA,zj,pT]; rfl
    refine⟨_,rfl,_,rfl,q,n,rs,zz,rfl,aD.of ((s09.trans' sA) _ _ F.eq),hrs,n12,rzz,λlp HB hlp acc=>?_⟩
    obtain⟨sB,as,ea,ta⟩:=acc
    refine⟨ay (show 0<=100 by decide),λpn' hpn'=>⟨lp,pn',_,rfl,rfl,aD.of (aB.new hpn' _ _ ea),aD.of aF,_,rfl,?_⟩⟩
    have ef:(as.map V.ref).isEmpty=eY rs n zz:=by
     unfold eY
     have:=ta.1
     cases as with
     | nil=>cases z:fM rs 0 (bB zz n) with
      | nil=>rfl
      | cons a l=>rw[z] at this; cases this
     | cons a l=>cases z:fM rs 0 (bB zz n) with
      | nil=>rw[z] at this; cases this
      | cons a l=>rfl
    show if (as.map V.ref).isEmpty=true then _ else _
    rw[ef]
    have sC:=sB.trans' (aB.new (o:=.lst []) hpn')
    cases cb:eY rs n zz with
    | true =>
     refine ax ⟨_,rfl,_,sC _ _ eA,?_,_,rfl,bW hld (sA.trans' sC),?_⟩
     ·rw[aI]
      exact cA (b8 (gT _ _) (b8 (List.length_take_le' _ _) lT)) (by decide)
     ·rw[aF,sn,show[zz].filter (eY rs n)=[zz] from yt cb,bQ]
      rfl
    | false =>
     refine aW ⟨_,rfl,sA.trans' sC,?_⟩
     rw[sC _ _ eA,sn,show[zz].filter (eY rs n)=[] from yu (by rw[cb]; exact dN),gX]
  rintro σ HA ⟨v,rfl,sA,eA⟩
  rw[aI,cW,<- nb] at eA
  have enA:=sA _ _ en
  have lnb:(hV rs n x).length<=5000:=b8 (C7 rs n x) (by omega)
  refine⟨_,_,_,_,rfl,DL enA lnb,DL eA lnb,b8 (Md _) (by decide),λHB sB=>⟨_,rfl,?_⟩⟩
  rw[MK]
  refine aW ?_
  have s0B:=s09.trans' (sA.trans' sB)
  refine⟨_,rfl,_,rfl,_,rfl,_,rfl,t,dx,kp,bt,n,m,rs,x,y,z,rfl,(F.mono s0B).tab,rx,ry,rz,bx,bY,bz,n1,n12,λHC sC=>?_⟩
  have three:[V.str x,V.str y,V.str z]=[V.str (tx n (ch x)),V.str (tx n (ch y)),V.str (tx n (ch z))]:=by rw[<- cu rx.len,<- cu ry.len,<- cu rz.len]
  refine⟨_,rfl,_,rfl,_,rfl,ch x,ch y,ch z,n,three,by omega,?_⟩
  have ge:tx n (kX (ch x) (ch y) (ch z))=tx n (g0 (ch x) (ch y) (ch z)):=mT λi hi=>by
   unfold kX g0
   rcases rx.bin i hi with e1 | e1 <;> rcases ry.bin i hi with e2 | e2 <;> rcases rz.bin i hi with e3 | e3 <;> simp only[e1,e2,e3] <;> rfl
  rw[ge]
  refine⟨_,_,_,_,rfl,.str _,.str _,bX _,λHD sD=>?_⟩
  rw[vx]
  exact k _ (s0B.trans' (sC.trans' sD))
abbrev qf:Stmt:=ak 102
theorem Cb (r:Str):∀ L:List Str,eF (.str r) (L.map V.str)=decide (r∈L)
 | []=>rfl
 | x :: L=>by
  show(eZ (.str x) (.str r) || eF (.str r) (L.map V.str))=_
  rw[Cb r L,i6,wY,dX,dX,bh]
  show(x == r)=true∨_↔_
  rw[beq_iff_eq]
  exact⟨λh=>h.imp Eq.symm id,λh=>h.imp Eq.symm id⟩
theorem vt:∀ L:List Str,(L.map V.str).all hW=true
 | []=>rfl
 | x :: L=>vt L
theorem Av {rs:List Str}{n:Nat}(p:Str->Bool):((jG rs n).filter p).Pairwise rJ :=
 List.Pairwise.filter _ ((xD n).imp_of_mem λ{a b} ha hb hab=>NQ (jF.mp ha).1.len (jF.mp hb).1.len hab)
theorem Ip {n:Nat}{x y:Str}(hx:Row n x)(hy:Row n y)(h:∀ i,i < n->ch x i=ch y i):x=y:=by
 rw[cu hx.len,cu hy.len]
 exact mT h
theorem CC {n:Nat}{g z:Str}(h:∀ i,i < n->ch g i=45∨ch g i=ch z i):xp (ch z) (ch g) n=true:=by
 unfold xp
 rw[jU]
 intro b hb
 obtain⟨i,hi,rfl⟩:=cI.mp hb
 exact bR (h i (bK.mp hi))
def AD (C:Addr):Sp:=λvs H Q _=>wX λ(t dx kp bt q sh:Addr) (n m:Nat) (rs:List Str) (x y g:Str)=>vs=[.ref t,.ref q,.ref sh,.str x,.str y,.str g]/\As C H t dx kp bt q n m rs/\ja H sh (cD rs n)/\Ru rs n x/\Ru rs n y/\dQ n g/\Mt n g y/\∀ H',aB H H'->Q (.bl true) H'
abbrev O9:List Str:=["_law_made", "_law_rows_here", "_law_sheaves", "_law_one", "_law_two", "_law_pattern_here", "_law_found", "_law_far"]
abbrev sU:List Str:=["_law_made", "_law_rows_here", "_law_sheaves", "_law_one", "_law_two", "_law_pattern_here"]
theorem xA:FnScope O9 sU (aS ua):={}
theorem Js {f fa' fe fi' fm':Addr}{fd ga' ge gi' gm':FuncData}(D:Df K mg "_law_near" ua sU f fd) (Da:Df K mg "_law_apart" qh nn fa' ga') (Ga:aG P w K mg base (aH P w) 1 fa' ga' nn (wz K)) (De:Df K mg "nearest" uZ sV fe ge) (Ge:aG P w K mg base (aH P w) 8 fe ge sV (AC C))
  (Di:Df K mg "_law_is" lS jT fi' gi') (Gi:aG P w K mg base (aH P w) 3 fi' gi' jT oM) (Dm:Df K mg "_law_matches" qd Pl fm' gm') (B:Bt mg):aG P w K mg base (aH P w) 9 f fd sU (AD C):=by
 refine D.F.okN xA (λvs H Q E h=>?_) (λcdv A outer s H vs Q E hr h=>?_)
 ·obtain⟨t,dx,kp,bt,q,sh,n,m,rs,x,y,g,rfl,_⟩:=h
  rfl
 ·obtain⟨t,dx,kp,bt,q,sh,n,m,rs,x,y,g,rfl,F,es,⟨rx,bx⟩,⟨ry,bY⟩,pg,mt,k⟩:=h
  have hrs:=F.rows
  have n12:=F.n12
  refine⟨_,aK (aq (i:=6) xA.nd rfl (Or.inl rfl) (aO De Ge (hr.mono (by decide)) aJ (aA (pv 0) (aA (pv 3) (aA (pv 5) aC)))))
   (aK (bJ (dw (jH (eD (cm (aO Di Gi (hr.mono (by decide)) aJ (aA (pv 1) (aA (pv 6) aC))))) (jk (eD (cm (aO Dm (Bf Dm B) (hr.mono (by decide)) aJ (aA (pv 6) (aA (pv 5) aC)))))))) (aL (aX hJ)) bO)
   (aK (aq (i:=7) xA.nd rfl (Or.inl rfl) (am dG (bC fO (by rfl) B.len d7 (aA (aO Da Ga (hr.mono (by decide)) aJ (aA (pv 2) (aA (pv 3) (aA (pv 6) aC)))) aC)) (bC fO (by rfl) B.len d7 (aA (aO Da Ga (hr.mono (by decide)) aJ (aA (pv 2) (aA (pv 6) (aA (pv 4) aC)))) aC))))
   (aL (aX (eO cF (pv 7) (bC fO (by rfl) B.len d7 (aA (aO Da Ga (hr.mono (by decide)) aJ (aA (pv 2) (aA (pv 3) (aA (pv 4) aC)))) aC)) (ao _)))))),?_⟩
  refine⟨_,rfl,_,rfl,_,rfl,t,dx,kp,bt,n,m,rs,x,g,rfl,F.tab,rx,bx,pg,oz bY mt,F.n1,n12,λz H1 nz s1'=>?_⟩
  have rz:=nz.row
  have bz:=Nz hrs rx bx (oz bY mt) nz
  have mz:=fI.mt hrs rx bx pg (oz bY mt) nz
  refine⟨_,rfl,_,rfl,q,n,rs,z,rfl,s1' _ _ F.eq,hrs,F.ne,n12,⟨rz,bz⟩,λH2 s2=>⟨_,rfl,aW ?_⟩⟩
  have s02:=s1'.trans' s2
  have two:[V.str z,V.str g]=[V.str (tx n (ch z)),V.str (tx n (ch g))]:=by rw[<- cu rz.len,<- cu pg.len]
  refine⟨_,rfl,_,rfl,ch z,ch g,n,two,by omega,λH3 s3=>⟨_,rfl,?_⟩⟩
  rw[CC mz]
  refine aW ?_
  have s03:=s02.trans' s3
  refine⟨_,rfl,_,rfl,_,rfl,sh,n,rs,x,z,rfl,es.mono s03,hrs,rx,rz,n12,λp1 x1 H4 hp1 s4 e4 l4=>?_⟩
  have s04:=s03.trans' s4
  refine⟨p1,_,rfl,.inl (aD.of e4),_,rfl,_,rfl,_,rfl,sh,n,rs,z,y,rfl,es.mono s04,hrs,rz,ry,n12,λp2 x2 H5 hp2 s5 e5 l5=>?_⟩
  have s05:=s04.trans' s5
  refine⟨p2,_,rfl,.inl (aD.of e5),_,_,rfl,rfl,?_⟩
  refine⟨_,rfl,_,rfl,_,rfl,_,rfl,sh,n,rs,x,y,rfl,es.mono s05,hrs,rx,ry,n12,λp3 x3 H6 hp3 s6 e6 l6=>?_⟩
  refine⟨p3,_,rfl,.inl (aD.of e6),rfl,?_⟩
  have de:=Ny hrs rx bx (oz bY mt) nz bY mt
  have e:V.int ((x1.length:Int) + (x2.length:Int))=V.int (x3.length:Nat):=by rw[l4,l5,l6,<- de]; rfl
  have:=k H6 (s05.trans' s6)
  show Q (.bl (decide (V.int ((x1.length:Int) + (x2.length:Int))=V.int (x3.length:Nat)))) H6
  rw[bR e]
  exact this
def wL (H:Hp)(rs:List Str)(n:Nat)(u:Addr):Prop:=∃(a:Addr) (zs:List Str) (l:Str),H u=some (.tup [.ref a,.str l])/\H a=some (.lst (zs.map V.str))/\zs.length<=4096/\l∈zs/\zs.Pairwise rJ/\∀ z∈zs,Ru rs n z
theorem wL.mono {H H':Hp}{rs:List Str}{n:Nat}{u:Addr}(h:wL H rs n u)(s:aB H H'):wL H' rs n u:=by
 obtain⟨a,zs,l,e1,e2,r⟩:=h
 exact⟨a,zs,l,s _ _ e1,s _ _ e2,r⟩
def AF (C:Addr):Sp:=λvs H Q _=>wX λ(t dx kp bt q:Addr) (n m:Nat) (rs:List Str) (x y z g:Str)=>vs=[.ref t,.ref q,.str x,.str y,.str z,.str g]/\As C H t dx kp bt q n m rs/\Ru rs n x/\Ru rs n y/\Ru rs n z/\dQ n g/\Mt n g y/\∀ H',aB H H'->Q (.bl true) H'
def ML (C:Addr)(H:Hp)(t q:Addr)(x y z g:Str)(rs:List Str)(n:Nat):St->Hp->Prop:=λσ H2=>∃(pp:Addr) (us:List Addr),σ=[some (.ref t),some (.ref q),some (.str x),some (.str y),some (.str z),some (.str g),some (.ref pp),none,none,none]/\aB H H2/\H2 pp=some (.lst (us.map V.ref))/\us.length<=2/\∀ u∈us,wL H2 rs n u
abbrev OG:List Str:=["_law_made", "_law_rows_here", "_law_one", "_law_two", "_law_three", "_law_pattern_here", "_law_pairs", "_law_told", "_law_low", "_law_found"]
abbrev sX:List Str:=["_law_made", "_law_rows_here", "_law_one", "_law_two", "_law_three", "_law_pattern_here"]
theorem mX:FnScope OG sX (aS qf):={}
abbrev Ee:List Str:=["_law_row", "_law_rows_here"]
theorem Km:Ee.Nodup:=by trivial
theorem Jw {f fb fo fh fe fi' fn fl fm':Addr}{fd gb go gh ge gi' gn gl gm':FuncData}(D:Df K mg "_law_lists" qf sX f fd) (Db:Df K mg "box" uy tD fb gb) (Gb:aG P w K mg base (aH P w) 8 fb gb tD (AV C)) (Do:Df K mg "_law_go" mh Pg fo go) (Dh:Df K mg "matching" qb cX fh gh) (Gh:aG P w K mg base (aH P w) 6 fh gh cX (ww C))
  (De:Df K mg "_law_same" mf Ps fe ge) (Di:Df K mg "_law_is" lS jT fi' gi') (Gi:aG P w K mg base (aH P w) 3 fi' gi' jT oM) (Dn:Df K mg "meeting" qa nZ fn gn) (Gn:aG P w K mg base (aH P w) 7 fn gn nZ (wv C)) (Dl:Df K mg "filled" um cX fl gl) (Gl:aG P w K mg base (aH P w) 6 fl gl cX (AQ C)) (Dm:Df K mg "_law_matches" qd Pl fm' gm') (B:Bt mg) (M:Gm mg):aG P w K mg base (aH P w) 9 f fd sX (AF C):=by
 refine D.F.okN mX (λvs H Q E h=>?_) (λcdv A outer s H vs Q E hr h=>?_)
 ·obtain⟨t,dx,kp,bt,q,n,m,rs,x,y,z,g,rfl,_⟩:=h
  rfl
 ·obtain⟨t,dx,kp,bt,q,n,m,rs,x,y,z,g,rfl,F,⟨rx,bx⟩,⟨ry,bY⟩,⟨rz,bz⟩,pg,mt,k⟩:=h
  have hrs:=F.rows
  have n1:=F.n1
  have n12:=F.n12
  have hu:(A.deeper (envOfC "_law_lists" (aS qf) s.heap.objs.size f cdv)).units < cLine:=by have:=hr.units; omega
  refine⟨_,aK (aq (i:=6) mX.nd rfl (Or.inl rfl) (cT aC))
   (aK (vG (ML C H t q x y z g rs n) (bJ (aw iQ (bC j4 (by rfl) B.len d7 (aA (pv 2) aC)) aM (ao _)) (aL (aq (i:=6) mX.nd rfl (Or.inl rfl) (cT (aA (dO (aA (aO Db Gb (hr.mono (by decide)) aJ (aA (pv 0) (aA (pv 2) (aA (pv 3) aC)))) (aA (aO Do (rA Do B) (hr.mono (by decide)) aJ (aA (pv 2) (aA (pv 3) (aA (pv 4) aC)))) aC))) (aA (dO (aA (aO Dh Gh (hr.mono (by decide)) aJ (aA (pv 0) (aA (pv 5) aC))) (aA (pv 3) aC))) aC))))) bO))
   (aK (dD d8 rfl (cK (pv 6)) (dF rfl (bF (aU (i:=7) mX.nd rfl (Or.inl rfl)) (bF (aU (i:=8) mX.nd rfl (Or.inl rfl)) dE)))
   (aL (bJ (dw (jH (aw xU (pv 8) (pv 7) (by rfl)) (jH (aw (JU hu) (pv 7) (bC NA (by rfl) M.sorted (by rfl) (aA (pv 7) aC)) (ao _)) (jk (eD (cm (bC (j5 rfl) (by rfl) B.all (by rfl) (aA (cS (N':=Ee) (fm:=[none,some 1]) rfl ⟨rfl,by trivial,by trivial,rfl,rfl,rfl⟩ (cK (pv 7)) (λ_ _ _ _=>(aU (i:=0) Km rfl (Or.inl rfl))) (λ_ _ _ _=>cU) (λ_ _ _ _=>(aO Di Gi (hr.mono (by decide)) aJ (aA (pv 1) (aA (pv 0) aC))))) aC)))))))) (aL (aX hJ)) bO)))
   (aK (aq (i:=9) mX.nd rfl (Or.inl rfl) (aO Dn Gn (hr.mono (by decide)) aJ (aA (pv 0) (aA (cT (aA (pv 5) (aA (am BK av (bC j4 (by rfl) B.len d7 (aA (pv 2) aC))) (aA (pv 3) aC)))) aC))))
   (aK (bJ (eD (cm (aO De (kR De B 3) (hr.mono (by decide)) aJ (aA (pv 9) (aA (dO (aA av (aA (pv 3) aC))) aC))))) (aL (aX hJ)) bO)
   (aK (aq (i:=9) mX.nd rfl (Or.inl rfl) (aO Dl Gl (hr.mono (by decide)) aJ (aA (pv 0) (aA (pv 5) aC))))
   (aL (aX (jr (aO De (kR De B 3) (hr.mono (by decide)) aJ (aA (af iV (pv 9) aM (λ_ _=>rfl)) (aA av aC))) (jr (aO Di Gi (hr.mono (by decide)) aJ (aA (pv 1) (aA (af iV (pv 9) aM (λ_ _=>rfl)) aC))) (lZ (aO Dm (Bf Dm B) (hr.mono (by decide)) aJ (aA (af iV (pv 9) aM (λ_ _=>rfl)) (aA (pv 5) aC))))))))))))),?_⟩
  refine⟨ay (show 0<=100 by decide),λp0 hp0=>?_⟩
  have s0:=aB.new (o:=.lst []) hp0
  have three:[V.str x,V.str y,V.str z]=[V.str (tx n (ch x)),V.str (tx n (ch y)),V.str (tx n (ch z))]:=by rw[<- cu rx.len,<- cu ry.len,<- cu rz.len]
  have rm:Row n (tx n (g0 (ch x) (ch y) (ch z))):=⟨ce _ _,λi hi=>by
   rw[bE hi]
   unfold g0
   split
   ·exact ry.bin i hi
   ·exact rx.bin i hi⟩
  have bm:b6 rs n (tx n (g0 (ch x) (ch y) (ch z))):=E7 ry rz rx bY bz bx λi hi=>by rw[bE hi]; rfl
  refine⟨?_,?_⟩
  ·refine⟨_,rfl,_,rfl,ay (show x.length<=100 by rw[rx.len]; omega),_,_,rfl,rfl,_,rfl,bG (λ_=>?_) (λ_=>?_)⟩
   ·refine⟨_,rfl,_,rfl,_,rfl,t,dx,kp,bt,n,m,rs,x,y,rfl,F.tab.mono s0,hrs,rx,bx,ry,bY,n1,n12,λpb H1 hpb s1' eb lb=>?_⟩
    refine⟨_,rfl,_,rfl,_,rfl,ch x,ch y,ch z,n,three,by omega,ay (show 2<=100 by decide),λT1 hT1=>?_⟩
    have s2:=aB.new (o:=.tup [.ref pb,.str (tx n (g0 (ch x) (ch y) (ch z)))]) hT1
    have s02:=s0.trans' (s1'.trans' s2)
    refine⟨_,rfl,_,rfl,t,dx,kp,bt,n,m,rs,g,rfl,F.tab.mono s02,by rw[pg.len]; omega,n1,n12,pg,λpm H3 hpm s3 em lm=>?_⟩
    refine⟨_,rfl,ay (show 2<=100 by decide),λT2 hT2=>?_⟩
    have s4:=aB.new (o:=.tup [.ref pm,.str y]) hT2
    refine⟨ay (show 2<=100 by decide),λpl hpl=>?_⟩
    have s5:=aB.new (o:=.lst [.ref T1,.ref T2]) hpl
    have s35:=s3.trans' (s4.trans' s5)
    refine⟨pl,[T1,T2],rfl,s02.trans' s35,aF,aY _,λu hu'=>?_⟩
    rcases bh.mp hu' with rfl | hu'
    ·refine⟨pb,_,_,s35 _ _ aF,s35 _ _ (s2 _ _ eb),lb,?_,Av _,λz' hz'=>jF.mp (cY.mp hz').1⟩
     refine cY.mpr ⟨jF.mpr ⟨rm,bm⟩,?_⟩
     have:=(yU hrs rx ry rm bx bY bm).mpr λi hi e=>by
      rw[bE hi]
      unfold g0
      by_cases c:ch y i=ch z i
      ·rw[aP c,e]
      ·rw[aN c]
     exact bR this
    ·rw[bH.mp hu']
     refine⟨pm,_,_,(aB.new hpl) _ _ aF,(s4.trans' s5) _ _ em,lm,?_,Av _,λz' hz'=>jF.mp (cY.mp hz').1⟩
     exact cY.mpr ⟨jF.mpr ⟨ry,bY⟩,(vd y).mpr mt⟩
   ·exact⟨p0,[],rfl,s0,aF,by decide,(λu h=>by cases h)⟩
  rintro σ H1 ⟨pp,us,rfl,s1',epp,l2,pr⟩
  refine⟨_,rfl,pp,rfl,⟨_,aD.of epp⟩,?_⟩
  refine jN (K:=K) (a:=pp) (xs:=us.map V.ref) (λi σ H2=>∃ v7 v8,σ=[some (.ref t),some (.ref q),some (.str x),some (.str y),some (.str z),some (.str g),some (.ref pp),v7,v8,none]/\aB H1 H2) ⟨_,_,rfl,aB.refl _⟩ (λi σ H2 _ ⟨_,_,_,s2⟩=>aD.of (s2 _ _ epp)) ?_ ?_
  ·rintro i v σ H2 hi ⟨v7,v8,rfl,s2⟩
   rw[ar] at hi
   cases zi:us[i]? with
   | none=>rw[zi] at hi; cases hi
   | some u =>
    rw[zi] at hi
    cases hi
    obtain⟨a,zs,l,e1,e2,lz,ml,pw,gd⟩:=(pr u (bI zi)).mono s2
    refine⟨u,_,rfl,bT.of e1,rfl,_,_,rfl,_,_,rfl,rfl,?_⟩
    refine⟨_,rfl,_,rfl,a,_,rfl,.inl (aD.of e2),rfl,vt _,_,rfl,?_⟩
    show if (!eF (.str l) (zs.map V.str))=true then _ else _
    rw[Cb,bR ml]
    refine aW ⟨_,rfl,_,rfl,a,zs,rfl,aD.of e2,pw,λso hso=>?_⟩
    have s3:=aB.new (o:=.lst (zs.map V.str)) hso
    refine⟨a,so,_,_,rfl,rfl,aD.of (s3 _ _ e2),aD.of aF,vt _,vt _,_,rfl,?_⟩
    show if (!kA (zs.map V.str) (zs.map V.str))=true then _ else _
    rw[D0,bR rfl]
    have e3:=s3 _ _ e2
    have s23:=s2.trans' s3
    generalize upd H2 so (.lst (zs.map V.str))=H3 at *
    refine aW ⟨_,rfl,a,rfl,⟨_,aD.of e3⟩,λlb hlb=>?_⟩
    refine yb (K:=K) (q:=q) (zs:=zs) e3 (by omega) hlb (λz' hz' H7 s7 R k7=>⟨_,rfl,_,rfl,q,n,rs,z',rfl,(s1'.trans' (s23.trans' s7)) _ _ F.eq,hrs,F.ne,n12,gd z' hz',k7⟩) λH7 bl s7 e7 a7=>⟨lb,bl,rfl,aD.of e7,_,rfl,?_⟩
    show if (!bl.all id)=true then _ else _
    rw[a7]
    exact aW ⟨_,_,rfl,s23.trans' s7⟩
  rintro σ H2 ⟨v7,v8,rfl,s2⟩
  have s02:=s1'.trans' s2
  refine⟨_,rfl,_,rfl,_,rfl,_,rfl,ay (show x.length<=100 by rw[rx.len]; omega),_,_,rfl,rfl,by omega,by rw[rx.len]; omega,by decide,_,rfl,ay (show 3<=100 by decide),λpl hpl=>?_⟩
  have ed:oK ("-" : Str) (x.length:Int)=tx n (λ_=>45):=by rw[rx.len]; exact zW n
  rw[ed]
  have s3:=aB.new (o:=.lst ([g,tx n (λ_=>45),y].map V.str)) hpl
  have ag:∀ p∈[g,tx n (λ_=>45),y],dQ n p/\Mt n p y:=λp hp=>by
   rcases bh.mp hp with rfl | hp
   ·exact⟨pg,mt⟩
   ·rcases bh.mp hp with rfl | hp
    ·exact⟨⟨ce _ _,λi hi=>by rw[bE hi]; exact .inr (.inr rfl)⟩,λi hi=>by rw[bE hi]; exact .inl rfl⟩
    ·rw[bH.mp hp]
     exact⟨ry.pat,λi hi=>.inr rfl⟩
  have sA:=s02.trans' s3
  refine⟨t,dx,kp,bt,pl,n,m,rs,[g,tx n (λ_=>45),y],rfl,F.tab.mono sA,aF,(λp hp=>⟨(ag p hp).1,oz bY (ag p hp).2⟩),(show 3<=100 by decide),n1,n12,F.ne,hrs,λpf H4 s4 me=>?_⟩
  have ef:H4 pf=some (.tup [.str "row",.str y]):=by
   rcases me with⟨z',e',rz',_,al⟩ | ⟨i,j,p1,p2,_,_,h1,h2,q1,q2,hq1,hq2,n1',n2',c0⟩
   ·rw[e',Ip rz' ry λi hi=>al y (by simp) i hi (by rcases ry.bin i hi with h | h <;> rw[h] <;> decide)]
   ·have m1:=(ag p1 (bI h1)).2 q1 hq1
    have m2:=(ag p2 (bI h2)).2 q2 hq2
    rw[m1.resolve_left n1',m2.resolve_left n2'] at c0
    exact absurd c0 (Nat.ne_of_gt (bY q1 q2 hq1 hq2))
  have s04:=sA.trans' s4
  refine⟨_,rfl,_,rfl,ay (show 2<=100 by decide),λT3 hT3=>?_⟩
  have s5:=aB.new (o:=.tup [.str "row",.str y]) hT3
  refine⟨_,_,_,_,rfl,DK (s5 _ _ ef) (.str _) (.str _),DK aF (.str _) (.str _),(show 1 + max 0 (max 0 0)<=2 by decide),λH6 s6=>⟨_,rfl,?_⟩⟩
  rw[show(Dt.tup [.str "row",.str y]).eqb (.tup [.str "row",.str y])=true by
   show((("row" : Str) == "row") && ((y == y) && true))=true
   rw[iH,iH]; rfl]
  refine aW ?_
  have s06:=s04.trans' (s5.trans' s6)
  refine⟨_,rfl,_,rfl,t,dx,kp,bt,n,m,rs,g,rfl,F.tab.mono s06,pg,n1,n12,oz bY mt,F.ne,hrs,λz' pz H7 rz' bz' al s7 ez=>?_⟩
  have two:[V.str z',V.str g]=[V.str (tx n (ch z')),V.str (tx n (ch g))]:=by rw[<- cu rz'.len,<- cu pg.len]
  refine⟨_,rfl,pz,_,_,_,rfl,rfl,bT.of ez,rfl,_,_,_,_,rfl,.str _,.str _,bX _,λH8 s8=>⟨_,rfl,?_⟩⟩
  rw[vx]
  have s08:=s06.trans' (s7.trans' s8)
  refine ax ⟨_,rfl,_,rfl,pz,_,_,_,rfl,rfl,bT.of (s8 _ _ ez),rfl,q,n,rs,z',rfl,s08 _ _ F.eq,hrs,F.ne,n12,⟨rz',bz'⟩,λH9 s9=>⟨_,rfl,ax ?_⟩⟩
  refine⟨_,rfl,pz,_,_,_,rfl,rfl,bT.of (s9 _ _ (s8 _ _ ez)),rfl,_,rfl,ch z',ch g,n,two,by omega,λHA sA'=>?_⟩
  rw[CC λi hi=>by
   by_cases c:ch g i=45
   ·exact .inl c
   ·exact .inr (al i hi c).symm]
  exact k _ (s08.trans' (s9.trans' sA'))
abbrev ud:Stmt:=ak 103
structure Bx (mg:Str->Option Value):Prop where
 min:mg "min" = none
 max:mg "max" = none
theorem ja.den {K:PySem.W.Frag}{H:Hp}{p:Addr}{bl:List (List (Nat×Nat))}(h:ja H p bl)(hl:bl.length<=600)(hk:∀ ks∈bl,ks.length<=600):cM K H (.ref p) (.lst (bl.map iG)):=by
 obtain⟨bs,e,l,g⟩:=h
 refine .lst (aD.of e) (by rw[aI,aI,l]) (by rw[aI]; omega) λi u d hu hd=>?_
 rw[ar] at hu hd
 obtain⟨b,zb,rfl⟩:=Option.map_eq_some_iff.mp hu
 obtain⟨ks,zk,rfl⟩:=Option.map_eq_some_iff.mp hd
 obtain⟨as,e2,t2⟩:=g i b ks zb zk
 have:=hk ks (bI zk)
 exact DI (aD.of e2) t2 (by rw[aI]; omega) λk h=>let ⟨_,_,e⟩:=cI.mp h; e ▸ (by decide:(2:Nat)<=5000)
theorem Mv {rs:List Str}{q r:Nat}(h:fN rs q r=true):fN rs r q=true:=wB.mpr (wB.mp h).symm
theorem DJ {K:PySem.W.Frag}{H:Hp}{p:Addr}{a:Str}{b c:Int}(h:H p=some (.tup [.str a,.int b,.int c])):cM K H (.ref p) (.tup [.str a,.int b,.int c]):=by
 refine .tup (bT.of h) rfl (show 3<=5000 by decide) λi u v hu hv=>?_
 match i,hu,hv with
 | 0,hu,hv=>cases hu; cases hv; exact .str _
 | 1,hu,hv=>cases hu; cases hv; exact .int _
 | 2,hu,hv=>cases hu; cases hv; exact .int _
 | i + 3,hu,hv=>cases hu
theorem MJ (a:Str)(b c:Int):(Dt.tup [.str a,.int b,.int c]).eqb (.tup [.str a,.int b,.int c])=true:=by
 show((a == a) && ((b == b) && ((c == c) && true)))=true
 rw[iH,iH,iH]; rfl
def AG (C:Addr):Sp:=λvs H Q _=>zB λ(t dx kp bt q sh:Addr) (n m:Nat) (rs:List Str) (a b:Int)=>vs=[.ref t,.ref q,.ref sh,.int a,.int b]/\As C H t dx kp bt q n m rs/\ja H sh (cD rs n)/\(0<=a/\a < ((aR rs n).length:Nat))/\(0<=b/\b < ((aR rs n).length:Nat))/\∀ H',aB H H'->Q (.bl true) H'
abbrev OH:List Str:=["_law_made", "_law_rows_here", "_law_sheaves", "_law_k", "_law_m", "_law_found", "_law_one", "_law_ends"]
abbrev sY:List Str:=["_law_made", "_law_rows_here", "_law_sheaves", "_law_k", "_law_m"]
theorem uJ:FnScope OH sY (aS ud):={}
abbrev Ef:List Str:=["_law_row", "_law_rows_here"]
theorem Kp:Ef.Nodup:=by trivial
theorem Jx {f fb fn fe fi' fx ft':Addr}{fd gb gn ge gi' gx gt':FuncData}(D:Df K mg "_law_free" ud sY f fd) (Db:Df K mg "bundles" mv ["table"] fb gb) (Gb:aG P w K mg base (aH P w) 6 fb gb ["table"] (u0 C)) (Dn:Df K mg "free_at" qm su fn gn) (Gn:aG P w K mg base (aH P w) 9 fn gn su (AO C))
  (De:Df K mg "_law_same" mf Ps fe ge) (Di:Df K mg "_law_is" lS jT fi' gi') (Gi:aG P w K mg base (aH P w) 3 fi' gi' jT oM) (Dx:Df K mg "_law_cross" je sZ fx gx) (Gx:aG P w K mg base (aH P w) 2 fx gx sZ (AI K)) (Dt:Df K mg "_law_turned" qc nh ft' gt') (Gt:aG P w K mg base (aH P w) 2 ft' gt' nh (wx K)) (B:Bt mg) (Y:Bx mg):aG P w K mg base (aH P w) 10 f fd sY (AG C):=by
 refine D.F.okN uJ (λvs H Q E h=>?_) (λcdv A outer s H vs Q E hr h=>?_)
 ·obtain⟨t,dx,kp,bt,q,sh,n,m,rs,a,b,rfl,_⟩:=h
  rfl
 ·obtain⟨t,dx,kp,bt,q,sh,n,m,rs,a,b,rfl,F,es,⟨a0,a1⟩,⟨b0,b1⟩,k⟩:=h
  have hrs:=F.rows
  have n1:=F.n1
  have n12:=F.n12
  have L12:(aR rs n).length<=12:=b8 (iU rs n) n12
  refine⟨_,aK (bJ (eD (cm (aO De (kR De B 4) (hr.mono (by decide)) aJ (aA (aO Db Gb (hr.mono (by decide)) aJ (aA (pv 0) aC)) (aA (pv 2) aC))))) (aL (aX hJ)) bO)
   (aK (bJ (aw cF (pv 3) (pv 4) (ao _)) (aL (aX hJ)) bO)
   (aK (aq (i:=5) uJ.nd rfl (Or.inl rfl) (aO Dn Gn (hr.mono (by decide)) aJ (aA (pv 0) (aA (cT (aA (pv 4) (aA (pv 3) aC))) aC))))
   (aK (bJ (eD (cm (aO Dx Gx (hr.mono (by decide)) aJ (aA (pv 1) (aA (af iV (af bN (af bN (pv 2) (pv 3) (λ_ _=>rfl)) aM (λ_ _=>rfl)) aM (λ_ _=>rfl)) (aA (af iV (af bN (af bN (pv 2) (pv 4) (λ_ _=>rfl)) aM (λ_ _=>rfl)) aM (λ_ _=>rfl)) aC)))))) (aL (aX (aO De (kR De B 4) (hr.mono (by decide)) aJ (aA (pv 5) (aA (dO (aA av (aA (bC (NC rfl) (by rfl) Y.min (by rfl) (aA (pv 3) (aA (pv 4) aC))) (aA (bC (E4 rfl) (by rfl) Y.max (by rfl) (aA (pv 3) (aA (pv 4) aC))) aC)))) aC))))) bO)
   (aK (bJ (dw (jH (eD (cm (aO De (kR De B 4) (hr.mono (by decide)) aJ (aA (af iV (pv 5) aM (λ_ _=>rfl)) (aA av aC))))) (jk (eD (cm (aO Di Gi (hr.mono (by decide)) aJ (aA (pv 1) (aA (af iV (pv 5) aM (λ_ _=>rfl)) aC)))))))) (aL (aX hJ)) bO)
   (aK (aq (i:=6) uJ.nd rfl (Or.inl rfl) (aO Dt Gt (hr.mono (by decide)) aJ (aA (af iV (pv 5) aM (λ_ _=>rfl)) (aA (af bN (pv 2) (pv 3) (λ_ _=>rfl)) aC))))
   (aK (aq (i:=7) uJ.nd rfl (Or.inl rfl) (cT (aA (pv 6) (aA (aO Dt Gt (hr.mono (by decide)) aJ (aA (pv 6) (aA (af bN (pv 2) (pv 4) (λ_ _=>rfl)) aC))) (aA (aO Dt Gt (hr.mono (by decide)) aJ (aA (af iV (pv 5) aM (λ_ _=>rfl)) (aA (af bN (pv 2) (pv 4) (λ_ _=>rfl)) aC))) aC)))))
   (aL (aX (bC (j5 rfl) (by rfl) B.all (by rfl) (aA (cS (N':=Ef) (fm:=[none,some 1]) rfl ⟨rfl,by trivial,by trivial,rfl,rfl,rfl⟩ (cK (pv 7)) (λ_ _ _ _=>(aU (i:=0) Kp rfl (Or.inl rfl))) (λ_ _ _ _=>cU) (λ_ _ _ _=>(aO Di Gi (hr.mono (by decide)) aJ (aA (pv 1) (aA (pv 0) aC))))) aC)))))))))),?_⟩
  refine⟨_,rfl,t,dx,kp,bt,n,m,rs,rfl,F.tab,hrs,n1,n12,λpb H1 bu=>?_⟩
  have s1':=bu.same
  have bl6:(cD rs n).length<=600:=by unfold cD; rw[aI]; omega
  have bk6:∀ ks∈cD rs n,ks.length<=600:=λks hk=>by
   obtain⟨l,_,rfl⟩:=cI.mp hk
   exact b8 (yS rs n l) (by omega)
  refine⟨_,rfl,_,_,_,_,rfl,bu.den bl6 bk6,(es.mono s1').den bl6 bk6,Me _,λH2 s2=>⟨_,rfl,?_⟩⟩
  rw[MO]
  refine aW ?_
  have s02:=s1'.trans' s2
  refine⟨_,rfl,_,rfl,rfl,_,rfl,?_⟩
  show if decide (V.int a=V.int b)=true then _ else _
  by_cases ab:a=b
  ·rw[ab,bR rfl]
   exact ax (k _ s02)
  rw[cy (λw=>ab (by injection w))]
  refine aW ⟨_,rfl,_,rfl,_,rfl,ay (show 2<=100 by decide),λnl hnl=>?_⟩
  have s3:=aB.new (o:=.lst [.int b,.int a]) hnl
  have s03:=s02.trans' s3
  have rng:∀ z∈[b,a],0<=z/\z < ((aR rs n).length:Int):=λz hz=>by
   rcases bh.mp hz with rfl | hz
   ·exact⟨b0,b1⟩
   ·rw[bH.mp hz]; exact⟨a0,a1⟩
  refine⟨t,dx,kp,bt,nl,n,m,rs,[b,a],rfl,F.tab.mono s03,aF,(show(2:Nat)<=20 by decide),n1,n12,hrs,rng,?_,F.ne,λp H4 s4 fa=>?_⟩
  ·exact List.nodup_cons.mpr ⟨λw=>ab (bH.mp w).symm,List.nodup_cons.mpr ⟨(λw=>by cases w),List.nodup_nil⟩⟩
  have s04:=s03.trans' s4
  obtain⟨bs,c1,as,u1,f1,f2,f3,f4,f5,f6⟩:=Ad hrs (es.mono s04) a0 a1
  obtain⟨bs',c2,as',u2,g1,g2,g3,g4,g5,g6⟩:=Ad hrs (es.mono s04) b0 b1
  have oka:=jw (rs:=rs) (n:=n) a0 a1
  have okb:=jw (rs:=rs) (n:=n) b0 b1
  refine⟨_,rfl,_,rfl,_,rfl,sh,_,_,_,rfl,rfl,aD.of f1,f2,c1,_,_,_,rfl,rfl,aD.of f3,f4,u1,_,_,_,rfl,rfl,bT.of f5,rfl,_,rfl,_,rfl,sh,_,_,_,rfl,rfl,aD.of g1,g2,c2,_,_,_,rfl,rfl,aD.of g3,g4,u2,_,_,_,rfl,rfl,bT.of g5,rfl,q,n,rs,bP rs n a,bP rs n b,rfl,aD.of (s04 _ _ F.eq),hrs,n12,oka.1,okb.1,λH5 s5=>⟨_,rfl,?_⟩⟩
  show if (!fN rs (bP rs n a) (bP rs n b))=true then _ else _
  have s05:=s04.trans' s5
  have fa:=fa.mono s5
  rcases fa with⟨z,ez,fz,allc⟩ | ⟨k1,l1,e1,mk,ml,kl,nc⟩
  ·have cr:Cr rs (bP rs n a) (bP rs n b):=(allc a (by simp) b (by simp)).resolve_left ab
   rw[wB.mpr cr]
   refine aW ?_
   refine⟨_,rfl,p,_,_,_,rfl,rfl,bT.of ez,rfl,_,_,_,_,rfl,.str _,.str _,bX _,λH6 s6=>⟨_,rfl,?_⟩⟩
   rw[vx]
   refine aW ?_
   have s06:=s05.trans' s6
   have ez6:=s6 _ _ ez
   refine⟨_,rfl,_,rfl,p,_,_,_,rfl,rfl,bT.of ez6,rfl,q,n,rs,z,rfl,s06 _ _ F.eq,hrs,F.ne,n12,⟨fz.row,fz.bor⟩,λH7 s7=>⟨_,rfl,aW ?_⟩⟩
   have s07:=s06.trans' s7
   have s47:=s5.trans' (s6.trans' s7)
   have ez7:=s7 _ _ ez6
   have lt:∀ p∈[b,a].map (bP rs n),p < n:=λp hp=>by
    obtain⟨z,hz,rfl⟩:=cI.mp hp
    exact(jw (rng z hz).1 (rng z hz).2).1
   have crs:∀ c∈[b,a],∀ p∈[b,a].map (bP rs n),p=bP rs n c∨Cr rs (bP rs n c) p:=λc hc p hp=>by
    obtain⟨z,hz,rfl⟩:=cI.mp hp
    rcases allc c hc z hz with e | e
    ·rw[e]; exact .inl rfl
    ·exact .inr e
   have turn:∀ c∈[b,a],∀ x,pY rs n ([b,a].map (bP rs n)) x->pY rs n ([b,a].map (bP rs n)) (bM n ((bq rs n (bP rs n c)).map (·.1)) x):=λc hc x fx=>MA hrs fx (cI.mpr ⟨c,hc,rfl⟩) (jw (rng c hc).1 (rng c hc).2).1 (jw (rng c hc).1 (rng c hc).2).2.1 lt (crs c hc)
   have ma:a∈[b,a]:=by simp
   have mb:b∈[b,a]:=by simp
   have fo:=turn a ma z fz
   refine⟨_,rfl,p,_,_,_,rfl,rfl,bT.of ez7,rfl,_,rfl,_,rfl,sh,_,_,_,rfl,rfl,aD.of (s47 _ _ f1),f2,c1,as,n,bq rs n (bP rs n a),z,rfl,fz.row,n12,aD.of (s47 _ _ f3),f6.mono s47,wD rs n _,(λpr hpr=>(nJ (a:=pr.2) hpr).1),?_⟩
   refine⟨_,rfl,_,rfl,_,rfl,_,rfl,sh,_,_,_,rfl,rfl,aD.of (s47 _ _ g1),g2,c2,as',n,bq rs n (bP rs n b),_,rfl,fo.row,n12,aD.of (s47 _ _ g3),g6.mono s47,wD rs n _,(λpr hpr=>(nJ (a:=pr.2) hpr).1),?_⟩
   refine⟨_,rfl,p,_,_,_,rfl,rfl,bT.of ez7,rfl,_,rfl,_,rfl,sh,_,_,_,rfl,rfl,aD.of (s47 _ _ g1),g2,c2,as',n,bq rs n (bP rs n b),z,rfl,fz.row,n12,aD.of (s47 _ _ g3),g6.mono s47,wD rs n _,(λpr hpr=>(nJ (a:=pr.2) hpr).1),ay (show 3<=100 by decide),λen hen=>?_⟩
   have ft:=turn b mb _ fo
   have fu:=turn b mb z fz
   have s8:=aB.new (o:=.lst ([bM n ((bq rs n (bP rs n a)).map (·.1)) z,bM n ((bq rs n (bP rs n b)).map (·.1)) (bM n ((bq rs n (bP rs n a)).map (·.1)) z),bM n ((bq rs n (bP rs n b)).map (·.1)) z].map V.str)) hen
   refine⟨_,rfl,en,rfl,⟨_,aD.of aF⟩,λlb hlb=>?_⟩
   refine yb (K:=K) (q:=q) (zs:=[bM n ((bq rs n (bP rs n a)).map (·.1)) z,bM n ((bq rs n (bP rs n b)).map (·.1)) (bM n ((bq rs n (bP rs n a)).map (·.1)) z),bM n ((bq rs n (bP rs n b)).map (·.1)) z]) aF (show 3<=5000 by decide) hlb (λz' hz' H9 s9 R k9=>⟨_,rfl,_,rfl,q,n,rs,z',rfl,(s07.trans' (s8.trans' s9)) _ _ F.eq,hrs,F.ne,n12,?_,k9⟩) λH9 bl s9 e9 a9=>⟨lb,bl,rfl,aD.of e9,?_⟩
   ·rcases bh.mp hz' with rfl | hz'
    ·exact⟨fo.row,fo.bor⟩
    ·rcases bh.mp hz' with rfl | hz'
     ·exact⟨ft.row,ft.bor⟩
     ·rw[bH.mp hz']; exact⟨fu.row,fu.bor⟩
   ·rw[a9]
    exact k _ (s07.trans' (s8.trans' s9))
  ·have two:∀ z∈[b,a],z=b∨z=a:=λz hz=>by
    rcases bh.mp hz with h | h
    ·exact .inl h
    ·exact .inr (bH.mp h)
   have both:(k1=b/\l1=a/\b < a)∨(k1=a/\l1=b/\a < b):=by
    rcases two k1 mk with rfl | rfl <;> rcases two l1 ml with rfl | rfl
    ·omega
    ·exact .inl ⟨rfl,rfl,kl⟩
    ·exact .inr ⟨rfl,rfl,kl⟩
    ·omega
   have ncr:fN rs (bP rs n a) (bP rs n b)=false:=by
    rcases both with⟨rfl,rfl,_⟩ | ⟨rfl,rfl,_⟩
    ·cases c:fN rs (bP rs n l1) (bP rs n k1) with
     | false=>rfl
     | true=>rw[Mv c] at nc; cases nc
    ·exact nc
   rw[ncr]
   refine ax ⟨_,rfl,_,rfl,_,rfl,_,_,rfl,_,rfl,_,rfl,_,_,rfl,ay (show 3<=100 by decide),λT3 hT3=>?_⟩
   have e3:[V.str "bar",V.int (if b < a then b else a),V.int (if b > a then b else a)]=[.str "bar",.int k1,.int l1]:=by
    rcases both with⟨rfl,rfl,h⟩ | ⟨rfl,rfl,h⟩
    ·rw[aP h,aN (by omega)]
    ·rw[aN (by omega),aP h]
   have s6:=aB.new (o:=.tup [V.str "bar",V.int (if b < a then b else a),V.int (if b > a then b else a)]) hT3
   refine⟨_,_,_,_,rfl,DJ (s6 _ _ e1),DJ (a := "bar") (b:=k1) (c:=l1) (by rw[aF,e3]),(show 1 + max 0 (max 0 (max 0 0))<=3 by decide),λH7 s7=>?_⟩
   rw[MJ]
   exact k _ (s05.trans' (s6.trans' s7))
def AT (K:PySem.W.Frag)(C:Addr):Sp:=λvs H Q _=>wX λ(t dx kp bt l dr:Addr) (n m:Nat) (rs:List Str) (x:Str) (d0 d1:Int)=>vs=[.ref t,.ref l,.str x,.ref dr]/\TabAt C H t dx kp bt n m rs/\H l=some (.lst (rs.map V.str))/\(∀ y∈rs,Row n y)/\Row n x /\
 aD K H dr ([d0,d1].map V.int)/\1<=n/\n<=12/\m<=1000/\rs.length<=99 /\
 ∀ H' rs',TabAt C H' t dx kp bt n (m + 1) rs'->H' l=some (.lst (rs'.map V.str))->(∀ y∈rs',Row n y)->rs'.length<=rs.length + 1->(∀ b o,b≠kp->b≠bt->b≠l->H b=some o->H' b=some o)->Q .non H'
abbrev Nch:List Str:=["_law_made", "_law_rows_here", "_law_fresh", "_law_drawn", "_law_row"]
abbrev sK:List Str:=["_law_made", "_law_rows_here", "_law_fresh", "_law_drawn"]
theorem Ao:FnScope Nch sK (aS qp):={}
theorem KB {f:Addr}{fd:FuncData}(D:Df K mg "_law_changed" qp sK f fd) (T:Tb K mg C fi fa ft fy fm fc gi ga gt gy gm gc) (Ga:aG P w K mg base (aH P w) 4 fa ga kj (wt C)) (Gt:aG P w K mg base (aH P w) 4 ft gt kj (A1 C)) (B:Bt mg):aG P w K mg base (aH P w) 5 f fd sK (AT K C):=by
 refine D.F.okN Ao (λvs H Q E h=>?_) (λcdv A outer s H vs Q E hr h=>?_)
 ·obtain⟨t,dx,kp,bt,l,dr,n,m,rs,x,d0,d1,rfl,_⟩:=h
  rfl
 ·obtain⟨t,dx,kp,bt,l,dr,n,m,rs,x,d0,d1,rfl,tab,hl,hrs,hx,hd,n1,n12,m1,l99,k⟩:=h
  have hu:(A.deeper (envOfC "_law_changed" (aS qp) s.heap.objs.size f cdv)).units < cLine:=hr.units0
  refine⟨_,aL (bJ (dw (i9 (aw iQ (af bN (pv 3) aM (λ_ _=>rfl)) aM (ao _)) (iP (aw (vQ hu) (pv 1) (cT aC) (ao _)))))
   (aK (aq (i:=4) Ao.nd rfl (Or.inl rfl) (hG mD PySem.F.slot_list_pop PySem.F.type_list_pop L6 (pv 1) (aA (am eE (af bN (pv 3) aM (λ_ _=>rfl)) (bC fO (by rfl) B.len d7 (aA (pv 1) aC))) aC)))
    (aL (bd (iA (pv 0) T.cl T.mt Gt hr T.bt .nil aJ (aA (pv 4) aC)))))
   (aK (bd (iA (pv 0) T.cl T.ma Ga hr T.ba .nil aJ (aA (pv 2) aC)))
    (aL (bd (hG mD nU nS jL (pv 1) (aA (pv 2) aC)))))),?_⟩
  have add:∀{v4:Option V} {H1:Hp},aB H H1->zf (wo (wm C "add" (wt C) [] E0 (fJ 0) (h8 (fJ 2) jC))) (wo (tBM K "list" B3 (fJ 1) (h8 (fJ 2) jC))) { nx:=λ_ H2=>Q .non H2,rt:=Q } [some (V.ref t),some (V.ref l),some (V.str x),some (V.ref dr),v4] H1:=by
   intro v4 H1 s1'
   refine⟨_,rfl,t,dx,_,rfl,(tab.mono s1').ins,rfl,_,rfl,t,dx,kp,bt,n,m,rs,x,rfl,tab.mono s1',hx,n1,n12,m1,λH2 tab2 k2=>?_⟩
   obtain⟨_,nk,nb⟩:=tab.off (ys:=[]) hl
   have l2:=k2 l _ nk nb (s1' _ _ hl)
   refine⟨_,rfl,.inl ⟨rfl,_,aD.of l2⟩,_,rfl,l,_,_,rfl,rfl,l2,?_,?_⟩
   ·rw[aI]
    exact cA (show _<=100 by omega) (by decide)
   ·have e:rs.map V.str ++ [V.str x]=(rs ++ [x]).map V.str:=by rw[bQ]; rfl
    rw[e]
    refine k _ (rs ++ [x]) ((tab2.off l2).1.perm ?_) aF (λy hy=>?_) (by rw[cR]; exact aY _) λb o h1 h2 h3 e=>?_
    ·exact List.perm_append_comm (l₁:=[x]) (l₂:=rs)
    ·rcases gQ.mp hy with hy | hy
     ·exact hrs y hy
     ·rw[bH.mp hy]; exact hx
    ·rw[aj h3]
     exact k2 b o h1 h2 (s1' b o e)
  refine⟨_,rfl,dr,_,_,_,rfl,rfl,hd,rfl,_,_,rfl,rfl,_,rfl,bG (λ_=>?_) (λ_=>aW (add (aB.refl H)))⟩
  refine⟨_,rfl,bX _,λpe hpe=>?_⟩
  have se:=aB.new (o:=.lst []) hpe
  refine⟨l,pe,_,rfl,rfl,se.seq (aD.of hl),aD.of aF,_,rfl,bG (λz0=>?_) (λ_=>add se)⟩
  have z0:(!(rs.map V.str).isEmpty)=true:=z0
  have z0:0 < rs.length:=by
   cases rs with
   | nil=>cases z0
   | cons _ _=>simp
  have le:=se _ _ hl
  have lpos:(0:Int) < ((rs.map V.str).length:Nat):=by rw[aI]; omega
  have jb:0<=d1 % ((rs.map V.str).length:Nat)/\d1 % ((rs.map V.str).length:Nat) < ((rs.map V.str).length:Nat):=⟨lA _ (by omega),lB _ lpos⟩
  obtain⟨j,hj⟩:∃ j:Nat,(j:Int)=d1 % ((rs.map V.str).length:Nat):=⟨(d1 % ((rs.map V.str).length:Nat)).toNat,by omega⟩
  have jl:j < rs.length:=by rw[aI] at jb hj; omega
  obtain⟨y,hy⟩:∃ y,rs[j]? = some y:=⟨_,bZ jl⟩
  have hix:seqIndex? (d1 % ((rs.map V.str).length:Nat)) (rs.map V.str).length=some j:=by
   rw[<- hj]
   exact seqIndex_of (by omega) (by rw[aI]; omega)
  refine⟨_,rfl,.inl ⟨rfl,_,aD.of le⟩,_,rfl,dr,_,_,_,rfl,rfl,se.seq hd,rfl,_,rfl,l,_,rfl,.inl (aD.of le),_,_,rfl,rfl,lpos,l,_,_,j,.str y,rfl,rfl,le,?_,?_,hix,(by rw[ar,hy]; rfl),?_⟩
  ·rw[aI] at jb ⊢; omega
  ·rw[aI] at jb ⊢; omega
  rw[CD]
  obtain⟨tab1,nk,nb⟩:=(tab.mono se).off (ys:=(rs.eraseIdx j).map V.str) le
  refine⟨_,rfl,t,dx,_,rfl,tab1.ins,rfl,_,rfl,t,dx,kp,bt,n,m,rs,rs.eraseIdx j,y,rfl,tab1,yC hy,hrs y (bI hy),n1,n12,m1,λH2 tab2 k2=>?_⟩
  refine k H2 (rs.eraseIdx j) tab2 (k2 l _ nk nb aF) (λz hz=>hrs z ((yC hy).mem_iff.mpr (dy _ hz))) (b8 (Cu rs j) (gB _)) λb o h1 h2 h3 e=>?_
  exact k2 b o h1 h2 (by rw[aj h3]; exact se b o e)
abbrev qr:Stmt:=ak 104
theorem JQ {n:Nat}{y:Str}(ry:Row n y)(d:Int):dQ n (tx n (jJ (ch y) d))/\Mt n (tx n (jJ (ch y) d)) y:=by
 refine⟨⟨ce _ _,λi hi=>?_⟩,λi hi=>?_⟩
 ·rw[bE hi]
  unfold jJ
  split
  ·rcases ry.bin i hi with h | h
   ·exact .inl h
   ·exact .inr (.inl h)
  ·exact .inr (.inr rfl)
 ·rw[bE hi]
  unfold jJ
  split
  ·exact .inr rfl
  ·exact .inl rfl
theorem FJ {n:Nat}{x y z:Str}(rx:Row n x)(ry:Row n y)(rz:Row n z):tx n (q9 [(x,1),(y,3),(z,3)])=tx n (g0 (ch x) (ch y) (ch z)):=mT λi hi=>by
 unfold q9 lE q0 lH g0
 rcases rx.bin i hi with e1 | e1 <;> rcases ry.bin i hi with e2 | e2 <;> rcases rz.bin i hi with e3 | e3 <;> simp[e1,e2,e3]
def AY (C:Addr):Sp:=λvs H Q _=>gY λ(t dx kp bt q:Addr) (n m:Nat) (rs:List Str) (c:Int)=>vs=[.ref t,.ref q,.int n,.int c]/\As C H t dx kp bt q n m rs/\∀ H',aB H H'->Q (.bl true) H'
abbrev O5:List Str:=["_law_made", "_law_rows_here", "_law_n", "_law_cell_here", "_law_drawn", "_law_one", "_law_two", "_law_three", "_law_sheaves", "_law_pattern_here", "_law_many"]
abbrev sQ:List Str:=["_law_made", "_law_rows_here", "_law_n", "_law_cell_here"]
theorem lO:FnScope O5 sQ (aS qr):={}
theorem KF {f fr fs fb fp f1 f2 f3 f4 fe fv fo:Addr}{fd gr gs gb gp g1 g2 g3 g4 ge gv go:FuncData}(D:Df K mg "_law_asked" qr sQ f fd) (Dr:Df K mg "_law_draws" kJ pL fr gr) (Ds:Df K mg "_law_some" uR sG fs gs) (Gs:aG P w K mg base (aH P w) 2 fs gs sG (A4 K)) (Db:Df K mg "_law_bundles" qg si fb gb) (Gb:aG P w K mg base (aH P w) 2 fb gb si (AJ K)) (Dp:Df K mg "_law_pattern" uW ["_law_row", "_law_number"] fp gp)
  (D1:Df K mg "_law_paths" qW sR f1 g1) (G1:aG P w K mg base (aH P w) 11 f1 g1 sR (AA C)) (D2:Df K mg "_law_near" ua sU f2 g2) (G2:aG P w K mg base (aH P w) 9 f2 g2 sU (AD C)) (D3:Df K mg "_law_lists" qf sX f3 g3) (G3:aG P w K mg base (aH P w) 9 f3 g3 sX (AF C)) (D4:Df K mg "_law_free" ud sY f4 g4) (G4:aG P w K mg base (aH P w) 10 f4 g4 sY (AG C))
  (De:Df K mg "_law_same" mf Ps fe ge) (Dv:Df K mg "voice" uO sE fv gv) (Gv:aG P w K mg base (aH P w) 8 fv gv sE (A0 C)) (Do:Df K mg "_law_go" mh Pg fo go) (B:Bt mg) (Y:Bx mg):aG P w K mg base (aH P w) 12 f fd sQ (AY C):=by
 refine D.F.okN lO (λvs H Q E h=>?_) (λcdv A outer s H vs Q E hr h=>?_)
 ·obtain⟨t,dx,kp,bt,q,n,m,rs,c,rfl,_⟩:=h
  rfl
 ·obtain⟨t,dx,kp,bt,q,n,m,rs,c,rfl,F,k⟩:=h
  have hrs:=F.rows
  have n1:=F.n1
  have n12:=F.n12
  have h0:0 < rs.length:=List.length_pos_iff.mpr F.ne
  have hu:(A.deeper (envOfC "_law_asked" (aS qr) s.heap.objs.size f cdv)).units < cLine:=by have:=hr.units; omega
  refine⟨_,aK (aq (i:=4) lO.nd rfl (Or.inl rfl) (aO Dr (oo Dr B) (hr.mono (by decide)) aJ (aA (am dG (pv 3) aM) (aA (cT (aA aM (aA aM (aA aM (aA aM aC))))) aC))))
   (aK (aq (i:=5) lO.nd rfl (Or.inl rfl) (aO Ds Gs (hr.mono (by decide)) aJ (aA (pv 1) (aA (am dG (pv 3) aM) aC))))
   (aK (aq (i:=6) lO.nd rfl (Or.inl rfl) (aO Ds Gs (hr.mono (by decide)) aJ (aA (pv 1) (aA (am dG (pv 3) aM) aC))))
   (aK (aq (i:=7) lO.nd rfl (Or.inl rfl) (aO Ds Gs (hr.mono (by decide)) aJ (aA (pv 1) (aA (am dG (pv 3) aM) aC))))
   (aK (aq (i:=8) lO.nd rfl (Or.inl rfl) (aO Db Gb (hr.mono (by decide)) aJ (aA (pv 1) (aA (pv 2) aC))))
   (aK (aq (i:=9) lO.nd rfl (Or.inl rfl) (aO Dp (Jm Dp B) (hr.mono (by decide)) aJ (aA (pv 6) (aA (af bN (pv 4) aM (λ_ _=>rfl)) aC))))
   (aK (bJ (aw cF (af bN (pv 4) aM (λ_ _=>rfl)) aM (ao _)) (aL (aX (aO D1 G1 (hr.mono (by decide)) aJ (aA (pv 0) (aA (pv 1) (aA (pv 8) (aA (pv 5) (aA (pv 6) (aA (pv 7) aC))))))))) bO)
   (aK (bJ (aw cF (af bN (pv 4) aM (λ_ _=>rfl)) aM (ao _)) (aL (aX (aO D2 G2 (hr.mono (by decide)) aJ (aA (pv 0) (aA (pv 1) (aA (pv 8) (aA (pv 5) (aA (pv 6) (aA (pv 9) aC))))))))) bO)
   (aK (bJ (aw cF (af bN (pv 4) aM (λ_ _=>rfl)) aM (ao _)) (aL (aX (aO D3 G3 (hr.mono (by decide)) aJ (aA (pv 0) (aA (pv 1) (aA (pv 5) (aA (pv 6) (aA (pv 7) (aA (pv 9) aC))))))))) bO)
   (aK (bJ (eD (cm (aO De (kR De B 3) (hr.mono (by decide)) aJ (aA (aO Dv Gv (hr.mono (by decide)) aJ (aA (pv 0) (aA (cT (aA (dO (aA (pv 5) (aA aM aC))) (aA (dO (aA (pv 6) (aA aM aC))) (aA (dO (aA (pv 7) (aA aM aC))) aC)))) aC))) (aA (aO Do (rA Do B) (hr.mono (by decide)) aJ (aA (pv 5) (aA (pv 6) (aA (pv 7) aC)))) aC))))) (aL (aX hJ)) bO)
   (aK (aq (i:=10) lO.nd rfl (Or.inl rfl) (bC (E4 rfl) (by rfl) Y.max (by rfl) (aA aM (aA (bC fO (by rfl) B.len d7 (aA (pv 8) aC)) aC))))
   (aL (aX (JL (eO (xV hu) (pv 8) (cT aC) (ao _)) (lZ (aO D4 G4 (hr.mono (by decide)) aJ (aA (pv 0) (aA (pv 1) (aA (pv 8) (aA (am eE (af bN (pv 4) aM (λ_ _=>rfl)) (pv 10)) (aA (am eE (af bN (pv 4) aM (λ_ _=>rfl)) (pv 10)) aC)))))))))))))))))))),?_⟩
  refine⟨_,rfl,_,_,rfl,rfl,ay (show 4<=100 by decide),λt' ht'=>?_⟩
  refine⟨_,t',[4,531441,13,11],rfl,aD.of aF,by decide,by decide,λu H1 s1' hu' e1=>?_⟩
  have s01:aB H H1:=(aB.new ht').trans' s1'
  obtain⟨d0,d1,d2,d3,ed⟩:∃ d0 d1 d2 d3:Int,(kY (c + 3) [4,531441,13,11]).map V.int=[.int d0,.int d1,.int d2,.int d3]:=⟨_,_,_,_,rfl⟩
  rw[ed] at e1
  clear hu' s1' ht'
  refine⟨_,rfl,_,rfl,_,_,rfl,rfl,q,_,rs,n,rfl,aD.of (s01 _ _ F.eq),h0,hrs,n12,λx H2 rx bx s2=>?_⟩
  have s02:=s01.trans' s2
  refine⟨_,rfl,_,rfl,_,_,rfl,rfl,q,_,rs,n,rfl,aD.of (s02 _ _ F.eq),h0,hrs,n12,λy H3 ry bY s3=>?_⟩
  have s03:=s02.trans' s3
  refine⟨_,rfl,_,rfl,_,_,rfl,rfl,q,_,rs,n,rfl,aD.of (s03 _ _ F.eq),h0,hrs,n12,λz H4 rz bz s4=>?_⟩
  have s04:=s03.trans' s4
  refine⟨_,rfl,_,rfl,q,n,rs,rfl,aD.of (s04 _ _ F.eq),hrs,n12,λsh H5 bu=>?_⟩
  have s05:=s04.trans' bu.same
  have es:=Oc bu
  have e5:=(s2.trans' (s3.trans' (s4.trans' bu.same))) _ _ e1
  have F5:=F.mono s05
  clear bu s04 s03 s02 s01 s4 s3 s2
  have two:[V.str y,V.int d1]=[V.str (tx n (ch y)),V.int d1]:=by rw[<- cu ry.len]
  refine⟨_,rfl,_,rfl,u,_,_,_,rfl,rfl,aD.of e5,rfl,ch y,n,d1,two,by omega,?_⟩
  obtain⟨pg,mt⟩:=JQ ry d1
  generalize tx n (jJ (ch y) d1)=g at *
  have k5:∀ H',aB H5 H'->Q (.bl true) H':=λH' s'=>k H' (s05.trans' s')
  refine⟨_,rfl,u,_,_,_,rfl,rfl,aD.of e5,rfl,rfl,_,rfl,bG (λ_=>?_) (λ_=>?_)⟩
  ·exact⟨_,rfl,_,rfl,_,rfl,_,rfl,_,rfl,_,rfl,t,dx,kp,bt,q,sh,n,m,rs,x,y,z,rfl,F5,es,⟨rx,bx⟩,⟨ry,bY⟩,⟨rz,bz⟩,k5⟩
  refine⟨_,rfl,u,_,_,_,rfl,rfl,aD.of e5,rfl,rfl,_,rfl,bG (λ_=>?_) (λ_=>?_)⟩
  ·exact⟨_,rfl,_,rfl,_,rfl,_,rfl,_,rfl,_,rfl,t,dx,kp,bt,q,sh,n,m,rs,x,y,g,rfl,F5,es,⟨rx,bx⟩,⟨ry,bY⟩,pg,mt,k5⟩
  refine⟨_,rfl,u,_,_,_,rfl,rfl,aD.of e5,rfl,rfl,_,rfl,bG (λ_=>?_) (λ_=>?_)⟩
  ·exact⟨_,rfl,_,rfl,_,rfl,_,rfl,_,rfl,_,rfl,t,dx,kp,bt,q,n,m,rs,x,y,z,g,rfl,F5,⟨rx,bx⟩,⟨ry,bY⟩,⟨rz,bz⟩,pg,mt,k5⟩
  refine⟨_,rfl,_,rfl,ay (show 2<=100 by decide),λT1 hT1=>⟨_,rfl,ay (show 2<=100 by decide),λT2 hT2=>⟨_,rfl,ay (show 2<=100 by decide),λT3 hT3=>⟨ay (show 3<=100 by decide),λcl hcl=>?_⟩⟩⟩⟩
  have a1:=aB.new (o:=.tup [.str x,.int 1]) hT1
  have a2:=aB.new (o:=.tup [.str y,.int 3]) hT2
  have a3:=aB.new (o:=.tup [.str z,.int 3]) hT3
  have a4:=aB.new (o:=.lst [.ref T1,.ref T2,.ref T3]) hcl
  have s59:=a1.trans' (a2.trans' (a3.trans' a4))
  have cr:zD (upd (upd (upd (upd H5 T1 (.tup [.str x,.int 1])) T2 (.tup [.str y,.int 3])) T3 (.tup [.str z,.int 3])) cl (.lst [.ref T1,.ref T2,.ref T3])) cl [(x,1),(y,3),(z,3)]:=by
   refine⟨[T1,T2,T3],aF,?_⟩
   refine((cH.one (k:=ck (x,1)) ?_).snoc (k:=ck (y,3)) ?_).snoc (k:=ck (z,3)) ?_
   ·exact(a2.trans' (a3.trans' a4)) _ _ aF
   ·exact(a3.trans' a4) _ _ aF
   ·exact a4 _ _ aF
  refine⟨t,dx,kp,bt,cl,n,m,rs,[(x,1),(y,3),(z,3)],rfl,F5.tab.mono s59,cr,(λp hp=>?_),(λp hp=>?_),(by show(1 + (3 + (3 + 0))) % 2=1; decide),n1,n12,(show(3:Nat)<=20 by decide),λH6 s6=>?_⟩
  ·rcases bh.mp hp with rfl | hp
   ·exact⟨rx,(by decide:(1:Nat)<=1)⟩
   ·rcases bh.mp hp with rfl | hp
    ·exact⟨ry,(by decide:(1:Nat)<=3)⟩
    ·rw[bH.mp hp]; exact⟨rz,(by decide:(1:Nat)<=3)⟩
  ·rcases bh.mp hp with rfl | hp
   ·exact bx
   ·rcases bh.mp hp with rfl | hp
    ·exact bY
    ·rw[bH.mp hp]; exact bz
  have three:[V.str x,V.str y,V.str z]=[V.str (tx n (ch x)),V.str (tx n (ch y)),V.str (tx n (ch z))]:=by rw[<- cu rx.len,<- cu ry.len,<- cu rz.len]
  refine⟨_,rfl,_,rfl,_,rfl,ch x,ch y,ch z,n,three,by omega,?_⟩
  rw[FJ rx ry rz]
  refine⟨_,_,_,_,rfl,.str _,.str _,bX _,λH7 s7=>⟨_,rfl,?_⟩⟩
  rw[vx]
  refine aW ?_
  have s57:=s59.trans' (s6.trans' s7)
  have es7:=es.mono s57
  obtain⟨bs,ebs,lbs⟩:∃ bs:List Addr,H7 sh=some (.lst (bs.map V.ref))/\bs.length=(aR rs n).length:=by
   obtain⟨bs,e,l,_⟩:=es7
   exact⟨bs,e,by rw[l]; unfold cD; rw[aI]⟩
  refine⟨_,rfl,sh,_,rfl,.inl (aD.of ebs),_,_,rfl,?_⟩
  refine⟨_,rfl,ay (show 0<=100 by decide),λpn hpn=>⟨sh,pn,_,rfl,rfl,aD.of (aB.new hpn _ _ ebs),aD.of aF,_,rfl,?_⟩⟩
  have s8:=aB.new (o:=.lst []) hpn
  have s58:=s57.trans' s8
  cases bs with
  | nil=>exact ax (k5 _ s58)
  | cons b0 br =>
   refine aW ?_
   have M1:1<=(aR rs n).length:=by rw[<- lbs]; exact Nat.succ_le_succ (bX _)
   have ek:(if ((((b0 :: br).map V.ref).length:Nat):Int) > 1 then ((((b0 :: br).map V.ref).length:Nat):Int) else 1)=((aR rs n).length:Nat):=by
    rw[aI,lbs]
    split <;> omega
   have mp:(0:Int) < if ((((b0 :: br).map V.ref).length:Nat):Int) > 1 then ((((b0 :: br).map V.ref).length:Nat):Int) else 1:=by rw[ek]; omega
   have e8:=s58 _ _ e5
   refine⟨_,rfl,_,rfl,_,rfl,_,rfl,u,_,_,_,rfl,rfl,aD.of e8,rfl,_,rfl,_,_,rfl,rfl,mp,_,rfl,u,_,_,_,rfl,rfl,aD.of e8,rfl,_,rfl,_,_,rfl,rfl,mp,t,dx,kp,bt,q,sh,n,m,rs,_,_,rfl,F5.mono s58,es.mono s58,⟨lA _ (by omega),?_⟩,⟨lA _ (by omega),?_⟩,λH9 s9=>k5 _ (s58.trans' s9)⟩
   ·have:=lB d2 mp
    rw[ek] at this ⊢
    exact this
   ·have:=lB d3 mp
    rw[ek] at this ⊢
    exact this
abbrev jf:Stmt:=ak 105
def M0 (H:Hp):St->Hp->Prop:=λσ H2=>∃(p q:Addr) (n:Nat) (ms:List Int) (fs:List Str),σ=[some (.ref p),some (.int n),some (.ref q),none,none,none]/\H2 p=some (.lst (ms.map V.int))/\H2 q=some (.lst (fs.map V.str))/\(∀ x∈fs,Row n x)/\1<=n/\n<=12/\fs.length<=ms.length - 2/\ms.length<=63
def tw (K:PySem.W.Frag):Sp:=λvs H Q _=>iL λ(a:Addr) (ns:List Int)=>vs=[.ref a]/\aD K H a (ns.map V.int)/\ns.length<=63/\∀ H',Q (.bl true) H'
abbrev OD:List Str:=["_law_script", "_law_n", "_law_fresh", "_law_made", "_law_rows_here", "_law_k"]
abbrev Nw:List Str:=["_law_script"]
theorem lQ:FnScope OD Nw (aS jf):={}
theorem K1 {f fn fr fl fw fh fk fo:Addr}{fd gn gr gl gw gh gk go:FuncData}(D:Df K mg "law" jf ["_law_script"] f fd) (Dl:Df K mg "_law_cell" uw ["_law_script", "_law_k"] fl gl) (Dr:Df K mg "_law_draws" kJ pL fr gr) (Dn:Df K mg "_law_count" jE ["_law_cell_here"] fn gn)
  (Dw:Df K mg "_law_rows" uS sF fw gw) (Gw:aG P w K mg base (aH P w) 3 fw gw sF (A5 K)) (Dh:Df K mg "_law_changed" qp sK fh gh) (Gh:aG P w K mg base (aH P w) 5 fh gh sK (AT K C))
  (Do:Df K mg "_law_asked" qr sQ fo go) (Go:aG P w K mg base (aH P w) 12 fo go sQ (AY C))
  (T:Tb K mg C fi fa ft fy fm fc gi ga gt gy gm gc) (Dc:Df K mg "check_count" mq ["questions"] fk gk) (B:Bt mg) (M:Gm mg):aG P w K mg base (aH P w) 13 f fd ["_law_script"] (tw K):=by
 refine D.F.okN lQ (λvs H Q E h=>?_) (λcdv A outer s H vs Q E hr h=>?_)
 ·obtain⟨a,ns,rfl,_⟩:=h
  rfl
 ·obtain⟨a,ns,rfl,hS,hl,k⟩:=h
  have hu:(A.deeper (envOfC "law" (aS jf) s.heap.objs.size f cdv)).units < cLine:=hr.units0
  refine⟨_,aK (aq (i:=0) lQ.nd rfl (Or.inl rfl) (jq oO (pv 0) jp (jo aM)))
   (aK (aq (i:=1) lQ.nd rfl (Or.inl rfl) (aO Dn (K9 Dn Dr B) (hr.mono (by decide)) aJ (aA (aO Dl (Bl Dl B) (hr.mono (by decide)) aJ (aA (pv 0) (aA aM aC))) aC)))
   (aK (aq (i:=2) lQ.nd rfl (Or.inl rfl) (aO Dw Gw (hr.mono (by decide)) aJ (aA (jq oO (pv 0) (jo aM) jp) (aA (pv 1) (aA (aO Dl (Bl Dl B) (hr.mono (by decide)) aJ (aA (pv 0) (aA aM aC))) aC)))))
   (aK (vG (M0 H) (bJ (aw n5 (pv 1) aM (ao _)) (aL (aq (i:=2) lQ.nd rfl (Or.inl rfl) (jq oO (pv 2) jp (jo aM)))) bO))
   (aK (aq (i:=3) lQ.nd rfl (Or.inl rfl) (JN T.mkC (Jf T Dc M) (hr.mono (by decide)) (by rfl) T.mC T.bi .nil aJ (aA (pv 1) aC)))
   (aK (aq (i:=4) lQ.nd rfl (Or.inl rfl) (cT aC))
   (aK (dD d8 rfl (gH (by rfl) B.range (aA (bC fO (by rfl) B.len d7 (aA (pv 2) aC)) aC)) (aU (i:=5) lQ.nd rfl (Or.inl rfl))
   (aK (bd (aO Dh Gh (hr.mono (by decide)) aJ (aA (pv 3) (aA (pv 4) (aA (af bN (pv 2) (pv 5) (λ_ _=>rfl)) (aA (aO Dr (oo Dr B) (hr.mono (by decide)) aJ (aA (am dG (af bN (pv 0) (am dG aM (pv 5)) (λ_ _=>rfl)) aM) (aA (cT (aA aM (aA aM aC))) aC))) aC))))))
   (aL (bJ (dw (i9 (aw (vQ hu) (pv 4) (cT aC) (ao _)) (iP (eD (cm (aO Do Go (hr.mono (by decide)) aJ (aA (pv 3) (aA (pv 4) (aA (pv 1) (aA (am dG (af bN (pv 0) (am dG aM (pv 5)) (λ_ _=>rfl)) (am ju aM (pv 5))) aC)))))))))) (aL (aX hJ)) bO))))
   (aL (aX hJ)))))))),?_⟩
  refine⟨_,rfl,_,rfl,a,_,rfl,hS,λp hp=>?_⟩
  obtain⟨ms,em,lm⟩:∃ ys:List Int,gA (ns.map V.int) none (some 63)=ys.map V.int/\ys.length<=ns.length:=by
   unfold gA
   rw[<- List.map_drop,<- tI]
   refine⟨_,rfl,?_⟩
   rw[cZ,o0]
   omega
  rw[em]
  refine⟨_,rfl,p,ms,0,rfl,aD.of aF,_,rfl,λn H2 n1 n12 s2=>?_⟩
  have e2:=s2 p _ aF
  refine⟨_,rfl,_,rfl,p,_,rfl,aD.of e2,λlc hlc=>?_⟩
  have ex:gA (ms.map V.int) (some 2) none=(ms.drop 2).map V.int:=Mm ms 2 (by omega)
  rw[ex]
  have s23:=aB.new (o:=.lst ((ms.drop 2).map V.int)) hlc
  refine⟨_,rfl,_,rfl,p,ms,1,rfl,aD.of (s23 p _ e2),?_⟩
  have lx:(ms.drop 2).length=ms.length - 2:=o0
  refine⟨lc,ms.drop 2,n,_,rfl,aD.of aF,by omega,n1,n12,λq H3 r hr' s3 hq e3=>?_⟩
  have p3:=s3 p _ (s23 p _ e2)
  obtain⟨fs,efs,rfs,lfs⟩:∃ fs:List Str,((List.range (ms.drop 2).length).map λi=>V.str (tx n (r i)))=fs.map V.str/\(∀ x∈fs,Row n x)/\fs.length=ms.length - 2:=by
   refine⟨(List.range (ms.drop 2).length).map λi=>tx n (r i),by rw[gR]; rfl,λx hx=>?_,by rw[aI,dk,lx]⟩
   obtain⟨i,_,rfl⟩:=cI.mp hx
   exact FO (hr' i)
  rw[efs] at e3
  refine⟨?_,?_⟩
  ·refine⟨_,rfl,_,_,rfl,rfl,_,rfl,bG (λ_=>?_) (λ_=>?_)⟩
   ·refine⟨_,rfl,_,rfl,q,_,rfl,aD.of e3,λq2 hq2=>?_⟩
    rw[show gA (fs.map V.str) none (some 10)=(fs.take 10).map V.str from Mj fs 10]
    exact⟨p,q2,n,ms,fs.take 10,rfl,aB.new hq2 _ _ p3,aF,(λx hx=>rfs x (tH hx)),n1,n12,by rw[cZ]; omega,by omega⟩
   ·exact⟨p,q,n,ms,fs,rfl,p3,e3,rfs,n1,n12,by omega,by omega⟩
  clear p3 e3 efs rfs lfs hr' s3 hq lx s23 ex e2 s2 n1 n12 em lm
  rintro σ H3 ⟨p,q,n,ms,fs,rfl,p3,e3,rfs,n1,n12,lfs,lms⟩
  refine⟨_,rfl,λt dx ht hdx htd=>?_⟩
  refine⟨t,dx,n,rfl,aF,n1,n12,λH4 kp bt tab4 hk4 hb4 keep4=>⟨rfl,?_⟩⟩
  have s34:aB H3 H4:=λb o e=>keep4 b o (λz=>by rw[z,ht] at e; cases e) (by
   rw[aj (λz=>by rw[z,ht] at e; cases e),aj (λz=>by rw[z,hdx] at e; cases e)]
   exact e)
  refine⟨bX _,λl hl4=>?_⟩
  have s45:=aB.new (o:=.lst []) hl4
  have s35:aB H3 (upd H4 l (.lst [])):=s34.trans' s45
  have pl:p≠l:=λz=>by rw[<- z,s34 _ _ p3] at hl4; cases hl4
  have ql:q≠l:=λz=>by rw[<- z,s34 _ _ e3] at hl4; cases hl4
  refine⟨_,rfl,q,_,rfl,.inl (aD.of (s35 _ _ e3)),_,rfl,?_,?_,?_⟩
  ·omega
  ·rw[aI]; omega
  have en:(((fs.map V.str).length:Nat):Int).toNat=fs.length:=by rw[aI]; omega
  rw[en]
  refine jy (λi σ H6=>∃ v5 rs m,σ=[some (.ref p),some (.int n),some (.ref q),some (.ref t),some (.ref l),v5]/\TabAt C H6 t dx kp bt n m rs/\H6 l=some (.lst (rs.map V.str))/\(∀ y∈rs,Row n y)/\m<=i/\rs.length<=i/\H6 p=some (.lst (ms.map V.int))/\H6 q=some (.lst (fs.map V.str)))
   ⟨none,[],0,rfl,tab4.mono s45,aF,(λ_ h=>by cases h),bX _,bX _,s35 _ _ p3,s35 _ _ e3⟩ ?_ ?_
  ·rintro i σ H6 hi ⟨v5,rs,m,rfl,tab6,l6,rows6,m6,len6,p6,q6⟩
   have il:2 + i < ms.length:=by omega
   rw[j6]
   have at1:cL (ms.map V.int) (2 + (i:Int))=some (.int ms[2 + i]):=by
    rw[show(2:Int) + (i:Int)=((2 + i:Nat):Int) by omega]
    refine dv ?_
    rw[ar,bZ il]
    rfl
   obtain⟨x,zx⟩:∃ x,fs[i]? = some x:=⟨_,bZ hi⟩
   have at2:cL (fs.map V.str) (i:Int)=some (.str x):=dv (by rw[ar,zx]; rfl)
   refine⟨_,rfl,_,rfl,_,rfl,_,rfl,q,_,_,_,rfl,rfl,aD.of q6,at2,_,rfl,_,rfl,_,_,rfl,rfl,p,_,_,_,rfl,rfl,aD.of p6,at1,_,_,rfl,rfl,ay (show 2<=100 by decide),λt' ht'=>?_⟩
   refine⟨_,t',[7,67],rfl,aD.of aF,by decide,by decide,λu H7 s7 hu e7=>?_⟩
   have s67:aB H6 H7:=(aB.new ht').trans' s7
   obtain⟨d0,d1,ed⟩:∃ d0 d1:Int,(kY (ms[2 + i] + 5) [7,67]).map V.int=[d0,d1].map V.int:=⟨_,_,rfl⟩
   rw[ed] at e7
   refine⟨t,dx,kp,bt,l,u,n,m,rs,x,_,_,rfl,tab6.mono s67,s67 _ _ l6,rows6,rfs x (bI zx),aD.of e7,n1,n12,by omega,by omega,λH8 rs' tab8 l8 rows8 len8 keep8=>?_⟩
   obtain⟨i7,c7,bvs7,k7,b7,_⟩:=tab6.mono s67
   have off:∀ b xs,b≠l->H7 b=some (.lst xs)->H8 b=some (.lst xs):=λb xs hbl e=>keep8 b _ (λz=>by rw[z,k7] at e; cases e) (λz=>by rw[z,b7] at e; cases e) hbl e
   have p8:=off p _ pl (s67 _ _ p6)
   have q8:=off q _ ql (s67 _ _ q6)
   refine⟨_,rfl,ay (show 0<=100 by decide),λpn hpn=>⟨l,pn,_,rfl,rfl,aD.of (aB.new hpn _ _ l8),aD.of aF,_,rfl,?_⟩⟩
   have sn:=aB.new (o:=.lst []) hpn
   have fin:∀ H',aB H8 H'->∃ v5 rs m,[some (V.ref p),some (V.int n),some (V.ref q),some (V.ref t),some (V.ref l),some (V.int i)]=[some (.ref p),some (.int n),some (.ref q),some (.ref t),some (.ref l),v5]/\TabAt C H' t dx kp bt n m rs/\H' l=some (.lst (rs.map V.str))/\(∀ y∈rs,Row n y)/\m<=i + 1/\rs.length<=i + 1/\H' p=some (.lst (ms.map V.int))/\H' q=some (.lst (fs.map V.str)):=λH' s'=>⟨_,rs',m + 1,rfl,tab8.mono s',s' _ _ l8,rows8,by omega,by omega,s' _ _ p8,s' _ _ q8⟩
   by_cases h0:rs'=[]
   ·subst h0
    exact aW (aW (fin _ sn))
   ·have e0:(!(rs'.map V.str).isEmpty)=true:=by
     cases rs' with
     | nil=>exact absurd rfl h0
     | cons a l=>rfl
    show if (!(rs'.map V.str).isEmpty)=true then _ else _
    rw[e0]
    refine ax ⟨_,rfl,_,rfl,_,rfl,_,rfl,_,rfl,_,_,rfl,rfl,p,_,_,_,rfl,rfl,aD.of (sn _ _ p8),at1,_,rfl,_,_,rfl,rfl,.inl ⟨by decide,by decide⟩,_,_,rfl,rfl,t,dx,kp,bt,l,n,m + 1,rs',_,rfl,⟨tab8.mono sn,sn _ _ l8,rows8,h0,n1,n12⟩,λH9 s9=>⟨_,rfl,aW ?_⟩⟩
    exact fin _ (sn.trans' s9)
  ·rintro σ H6 _
   exact k _
end
theorem Of {l:PySem.W.OpenLaw}{w:World}{K:PySem.W.Frag}{h:Heap}{mg:Str->Option Value}{fa CT f1 f2 f3 f4 f5 f6 f7 f8 f9 f10 f11 f12 f13 f14 f15 f16 f17 f18 f19 f20 f21 f22 f23 f24 f25 f26 f27 f28 f29 f30 f31 f32 f33 f34 f35 f36 f37 f38 f39 f40 f41 f42 f43 f44 f45 f46 f47 f48 f49 f50 f51 f52 f53 f54 f55 f56 f57 f58 f59 f60 f61 f62 f63 f64 f65 f66 f67 f68 f69 f70 f71 f72 f73 f74 f75 f76 f77 f78 f79 mf0 mf1 mf2 mf3 mf4 mf5:Addr}(X:K.In h) (G:h.Ns mainGlobals mg) (hfa:mg "law" = some (.ref fa))
  {od79 an79 mo0 ma0 mo1 ma1 mo2 ma2 mo3 ma3 mo4 ma4 mo5 ma5:Option Addr} {sl79 ms0 ms1 ms2 ms3 ms4 ms5:Array (Option Value)} {oc79 kV79 dc79 pm79 cd79 ct79 mq0 mk0 md0 mp0 mc0 mt0 mq1 mk1 md1 mp1 mc1 mt1 mq2 mk2 md2 mp2 mc2 mt2 mq3 mk3 md3 mp3 mc3 mt3 mq4 mk4 md4 mp4 mc4 mt4 mq5 mk5 md5 mp5 mc5 mt5:Value}
  {g1 g2 g3 g4 g5 g6 g7 g8 g9 g10 g11 g12 g13 g14 g15 g16 g17 g18 g19 g20 g21 g22 g23 g24 g25 g26 g27 g28 g29 g30 g31 g32 g33 g34 g35 g36 g37 g38 g39 g40 g41 g42 g43 g44 g45 g46 g47 g48 g49 g50 g51 g52 g53 g54 g55 g56 g57 g58 g59 g60 g61 g62 g63 g64 g65 g66 g67 g68 g69 g70 g71 g72 g73 g74 g75 g76 g77 g78:FuncData}
  (D1:Df K mg "check_count" mq ["questions"] f1 g1)
  (D2:Df K mg "check_question" uu ["question", "questions"] f2 g2)
  (D3:Df K mg "check_sign" qo ["sign"] f3 g3)
  (D4:Df K mg "check_answers" ux ["q", "a", "r", "b", "questions"] f4 g4)
  (D5:Df K mg "check_untold" qU ["number", "told"] f5 g5)
  (D6:Df K mg "check_row" mj ["row", "questions"] f6 g6)
  (D7:Df K mg "check_pattern" mo ["pattern", "questions"] f7 g7)
  (D8:Df K mg "other" uY ["sign"] f8 g8)
  (D9:Df K mg "is_row" uf ["row", "questions"] f9 g9)
  (D10:Df K mg "is_pattern" ug ["pattern", "questions"] f10 g10)
  (D11:Df K mg "only_of" oR ["text", "signs"] f11 g11)
  (D12:Df K mg "go" ul ["one", "two", "three"] f12 g12)
  (D13:Df K mg "differ" uo ["one", "other"] f13 g13)
  (D14:Df K mg "turned" qV ["row", "questions"] f14 g14)
  (D15:Df K mg "with_answer" oQ ["pattern", "question", "sign"] f15 g15)
  (D16:Df K mg "bundles" mv ["table"] f16 g16)
  (D17:Df K mg "crossing" ur ["table"] f17 g17)
  (D18:Df K mg "lowest_questions" oT ["table"] f18 g18)
  (D19:Df K mg "is_open" uh ["table", "question"] f19 g19)
  (D20:Df K mg "bundle_from" vA ["table", "lowest"] f20 g20)
  (D21:Df K mg "answer_along" vC ["table", "q", "r"] f21 g21)
  (D22:Df K mg "cross" ut ["table", "q", "r"] f22 g22)
  (D23:Df K mg "check_ruling" jg ["table", "row"] f23 g23)
  (D24:Df K mg "check_filled" qq ["table"] f24 g24)
  (D25:Df K mg "lacks" qi ["table", "row"] f25 g25)
  (D26:Df K mg "matching" qb ["table", "pattern"] f26 g26)
  (D27:Df K mg "filled" um ["table", "pattern"] f27 g27)
  (D28:Df K mg "meeting" qa ["table", "patterns"] f28 g28)
  (D29:Df K mg "joined" qj ["table", "patterns"] f29 g29)
  (D30:Df K mg "gaps" lU ["table", "pattern"] f30 g30)
  (D31:Df K mg "pairs_given" uV ["table", "pattern", "many"] f31 g31)
  (D32:Df K mg "answers" oW ["pattern"] f32 g32)
  (D33:Df K mg "open_places" qX ["pattern"] f33 g33)
  (D34:Df K mg "fits" mi ["table", "pattern", "question", "sign"] f34 g34)
  (D35:Df K mg "fill" lV ["table", "pattern"] f35 g35)
  (D36:Df K mg "steps" uQ ["table", "one", "other"] f36 g36)
  (D37:Df K mg "way" uN ["table", "one", "other"] f37 g37)
  (D38:Df K mg "middle" uc ["table", "one", "two", "three"] f38 g38)
  (D39:Df K mg "box" uy ["table", "one", "other"] f39 g39)
  (D40:Df K mg "neighbours" qZ ["table", "row"] f40 g40)
  (D41:Df K mg "nearest" uZ ["table", "row", "pattern"] f41 g41)
  (D42:Df K mg "step_towards" uP ["table", "row", "goal"] f42 g42)
  (D43:Df K mg "voice" uO ["table", "crowd"] f43 g43)
  (D44:Df K mg "check_weight" uq ["weight"] f44 g44)
  (D45:Df K mg "weight_of_yes" uM ["crowd", "question"] f45 g45)
  (D46:Df K mg "answer_of_most" ub ["yes", "whole"] f46 g46)
  (D47:Df K mg "free_at" qm ["table", "numbers"] f47 g47)
  (D48:Df K mg "check_numbers" uv ["numbers", "many"] f48 g48)
  (D49:Df K mg "pairs" uX ["numbers"] f49 g49)
  (D50:Df K mg "leave_to_turn" ue ["table", "lowest"] f50 g50)
  (D51:Df K mg "answer_with_both" vB ["table", "q", "r"] f51 g51)
  (D52:Df K mg "_law_cell" uw ["_law_script", "_law_k"] f52 g52)
  (D53:Df K mg "_law_draws" kJ ["_law_cell_here", "_law_parts"] f53 g53)
  (D54:Df K mg "_law_same" mf ["_law_found", "_law_due"] f54 g54)
  (D55:Df K mg "_law_count" jE ["_law_cell_here"] f55 g55)
  (D56:Df K mg "_law_not" qY ["_law_sign"] f56 g56)
  (D57:Df K mg "_law_hidden" uk ["_law_plan_here", "_law_m", "_law_number"] f57 g57)
  (D58:Df K mg "_law_bits" uz ["_law_number", "_law_n"] f58 g58)
  (D59:Df K mg "_law_row_by" uT ["_law_number", "_law_n", "_law_plan_here"] f59 g59)
  (D60:Df K mg "_law_plan" uU ["_law_cell_here"] f60 g60)
  (D61:Df K mg "_law_rows" uS ["_law_cells", "_law_n", "_law_cell_here"] f61 g61)
  (D62:Df K mg "_law_changed" qp ["_law_made", "_law_rows_here", "_law_fresh", "_law_drawn"] f62 g62)
  (D63:Df K mg "_law_bears" oV ["_law_rows_here", "_law_q", "_law_a", "_law_r", "_law_b"] f63 g63)
  (D64:Df K mg "_law_lacks" qe ["_law_rows_here", "_law_row"] f64 g64)
  (D65:Df K mg "_law_bundles" qg ["_law_rows_here", "_law_n"] f65 g65)
  (D66:Df K mg "_law_apart" qh ["_law_sheaves", "_law_one", "_law_another"] f66 g66)
  (D67:Df K mg "_law_turned" qc ["_law_row", "_law_bundle"] f67 g67)
  (D68:Df K mg "_law_go" mh ["_law_one", "_law_two", "_law_three"] f68 g68)
  (D69:Df K mg "_law_some" uR ["_law_rows_here", "_law_cell_here"] f69 g69)
  (D70:Df K mg "_law_matches" qd ["_law_row", "_law_pattern_here"] f70 g70)
  (D71:Df K mg "_law_pattern" uW ["_law_row", "_law_number"] f71 g71)
  (D72:Df K mg "_law_cross" je ["_law_rows_here", "_law_q", "_law_r"] f72 g72)
  (D73:Df K mg "_law_is" lS ["_law_rows_here", "_law_row"] f73 g73)
  (D74:Df K mg "_law_paths" qW ["_law_made", "_law_rows_here", "_law_sheaves", "_law_one", "_law_two", "_law_three"] f74 g74)
  (D75:Df K mg "_law_near" ua ["_law_made", "_law_rows_here", "_law_sheaves", "_law_one", "_law_two", "_law_pattern_here"] f75 g75)
  (D76:Df K mg "_law_lists" qf ["_law_made", "_law_rows_here", "_law_one", "_law_two", "_law_three", "_law_pattern_here"] f76 g76)
  (D77:Df K mg "_law_free" ud ["_law_made", "_law_rows_here", "_law_sheaves", "_law_k", "_law_m"] f77 g77)
  (D78:Df K mg "_law_asked" qr ["_law_made", "_law_rows_here", "_law_n", "_law_cell_here"] f78 g78)
  (a79:PySem.W.nsIn K mainGlobals "law" = some (some (.ref f79))) (l79:K.lookup f79=some ⟨oc79,od79,.func (PySem.W.fnOf "law" "law" (hZ jf) (dH jf) (aS jf) .none kV79 dc79 pm79 an79 cd79 ct79),sl79⟩) (c79:PySem.W.codeIn K cd79 "law" = true) (k79:PySem.W.keepIn K (.ref f79)=true)
  (tC:PySem.W.nsIn K mainGlobals "Table" = some (some (.ref CT))) (t1:PySem.W.plainGet K CT Str.empty=true) (t2:PySem.W.hasDictIn K CT=true) (t3:PySem.W.plainOver K CT=true) (t4:PySem.W.findIn K (.ref CT) "__setattr__" = some (some (.builtin "object.__setattr__"))) (t5:PySem.W.makesIn K CT=true) (t6:PySem.W.keepIn K (.ref CT)=true)
  (n_questions:PySem.W.findIn K (.ref CT) "questions" = some none)
  (n_kept:PySem.W.findIn K (.ref CT) "kept" = some none)
  (n_both:PySem.W.findIn K (.ref CT) "both" = some none)
  (ha0:PySem.W.findIn K (.ref CT) "__init__" = some (some (.ref mf0))) (hf0:PySem.W.isFn K (.ref mf0)=true) (hl0:K.lookup mf0=some ⟨mq0,mo0,.func (PySem.W.fnOf "__init__" "Table.__init__" (hZ oU) (dH oU) (aS oU) .none mk0 md0 mp0 ma0 mc0 mt0),ms0⟩) (hc0:PySem.W.codeIn K mc0 "Table.__init__" = true) (hk0:PySem.W.keepIn K (.ref mf0)=true)
  (ha1:PySem.W.findIn K (.ref CT) "add" = some (some (.ref mf1))) (hf1:PySem.W.isFn K (.ref mf1)=true) (hl1:K.lookup mf1=some ⟨mq1,mo1,.func (PySem.W.fnOf "add" "Table.add" (hZ mw) (dH mw) (aS mw) .none mk1 md1 mp1 ma1 mc1 mt1),ms1⟩) (hc1:PySem.W.codeIn K mc1 "Table.add" = true) (hk1:PySem.W.keepIn K (.ref mf1)=true)
  (ha2:PySem.W.findIn K (.ref CT) "take" = some (some (.ref mf2))) (hf2:PySem.W.isFn K (.ref mf2)=true) (hl2:K.lookup mf2=some ⟨mq2,mo2,.func (PySem.W.fnOf "take" "Table.take" (hZ jd) (dH jd) (aS jd) .none mk2 md2 mp2 ma2 mc2 mt2),ms2⟩) (hc2:PySem.W.codeIn K mc2 "Table.take" = true) (hk2:PySem.W.keepIn K (.ref mf2)=true)
  (ha3:PySem.W.findIn K (.ref CT) "tally" = some (some (.ref mf3))) (hf3:PySem.W.isFn K (.ref mf3)=true) (hl3:K.lookup mf3=some ⟨mq3,mo3,.func (PySem.W.fnOf "tally" "Table.tally" (hZ md) (dH md) (aS md) .none mk3 md3 mp3 ma3 mc3 mt3),ms3⟩) (hc3:PySem.W.codeIn K mc3 "Table.tally" = true) (hk3:PySem.W.keepIn K (.ref mf3)=true)
  (ha4:PySem.W.findIn K (.ref CT) "many" = some (some (.ref mf4))) (hf4:PySem.W.isFn K (.ref mf4)=true) (hl4:K.lookup mf4=some ⟨mq4,mo4,.func (PySem.W.fnOf "many" "Table.many" (hZ oS) (dH oS) (aS oS) .none mk4 md4 mp4 ma4 mc4 mt4),ms4⟩) (hc4:PySem.W.codeIn K mc4 "Table.many" = true) (hk4:PySem.W.keepIn K (.ref mf4)=true)
  (ha5:PySem.W.findIn K (.ref CT) "count" = some (some (.ref mf5))) (hf5:PySem.W.isFn K (.ref mf5)=true) (hl5:K.lookup mf5=some ⟨mq5,mo5,.func (PySem.W.fnOf "count" "Table.count" (hZ mZ) (dH mZ) (aS mZ) .none mk5 md5 mp5 ma5 mc5 mt5),ms5⟩) (hc5:PySem.W.codeIn K mc5 "Table.count" = true) (hk5:PySem.W.keepIn K (.ref mf5)=true)
  {tq ts:Tok} (gq:PySem.W.nsIn K mainGlobals "MOST_QUESTIONS" = some (some (.int 12 tq))) (gs:PySem.W.nsIn K mainGlobals "SIGNS" = some (some (.str "ny" ts)))
  (z0:PySem.W.nsIn K mainGlobals "len" = some none) (z1:PySem.W.nsIn K mainGlobals "range" = some none) (z2:PySem.W.nsIn K mainGlobals "all" = some none) (z3:PySem.W.nsIn K mainGlobals "zip" = some none) (z4:PySem.W.nsIn K mainGlobals "abs" = some none) (z5:PySem.W.nsIn K mainGlobals "int" = some none) (z6:PySem.W.nsIn K mainGlobals "str" = some none) (z7:PySem.W.nsIn K mainGlobals "bool" = some none) (z8:PySem.W.nsIn K mainGlobals "list" = some none) (z9:PySem.W.nsIn K mainGlobals "tuple" = some none) (z10:PySem.W.nsIn K mainGlobals "isinstance" = some none) (z11:PySem.W.nsIn K mainGlobals "enumerate" = some none) (z12:PySem.W.nsIn K mainGlobals "sum" = some none) (z13:PySem.W.nsIn K mainGlobals "sorted" = some none) (z14:PySem.W.nsIn K mainGlobals "dict" = some none) (z15:PySem.W.nsIn K mainGlobals "min" = some none) (z16:PySem.W.nsIn K mainGlobals "max" = some none) :
  ∃ fd:FuncData,(∀(s:Shared) (v:Value),BindsTo s fd ⟨[v],[]⟩ [("_law_script",v)])/\∀ base:Heap,K.In base->base.Ns mainGlobals mg->aG l.prog w K mg base (aH l.prog w) 13 fa fd ["_law_script"] (tw K):=by
 have e:=hfa.symm.trans (wH X G a79)
 cases e
 have B:Bt mg:=⟨gN X G z0,gN X G z1,gN X G z2,gN X G z3,gN X G z4,gN X G z5,gN X G z6,gN X G z7,gN X G z8,gN X G z9,gN X G z10⟩
 have M:Gm mg:=⟨gN X G z11,gN X G z12,gN X G z13,gN X G z14,⟨_,wH X G gq⟩,⟨_,wH X G gs⟩⟩
 have Y:Bx mg:=⟨gN X G z15,gN X G z16⟩
 have D79:=Mb (st:=jf) (ps:=["_law_script"]) X G a79 l79 c79 k79 λ_ _ _ _ _ _=>u1 λ_=>rfl
 have F0:=nD (st:=oU) hl0 hc0 hk0
 have b0:=F0.binds (ps:=["self", "questions"]) λ_ _ _ _ _ _=>u2 λ_ _=>rfl
 have F1:=nD (st:=mw) hl1 hc1 hk1
 have b1:=F1.binds (ps:=["self", "row"]) λ_ _ _ _ _ _=>u2 λ_ _=>rfl
 have F2:=nD (st:=jd) hl2 hc2 hk2
 have b2:=F2.binds (ps:=["self", "row"]) λ_ _ _ _ _ _=>u2 λ_ _=>rfl
 have F3:=nD (st:=md) hl3 hc3 hk3
 have b3:=F3.binds (ps:=["self", "row", "by"]) λ_ _ _ _ _ _=>u3 λ_ _ _=>rfl
 have F4:=nD (st:=oS) hl4 hc4 hk4
 have b4:=F4.binds (ps:=["self"]) λ_ _ _ _ _ _=>u1 λ_=>rfl
 have F5:=nD (st:=mZ) hl5 hc5 hk5
 have b5:=F5.binds (ps:=["self", "q", "a", "r", "b"]) λ_ _ _ _ _ _=>u5 λ_ _ _ _ _=>rfl
 have T:Tb K mg CT mf0 mf1 mf2 mf3 mf4 mf5 _ _ _ _ _ _:=⟨wH X G tC,⟨t1,t2,t3,t4⟩,⟨t5,ha0,hf0,t6⟩,n_questions,n_kept,n_both,⟨ha1,hf1,hk1⟩,⟨ha2,hf2,hk2⟩,⟨ha3,hf3,hk3⟩,⟨ha4,hf4,hk4⟩,⟨ha5,hf5,hk5⟩,F0,F1,F2,F3,F4,F5,b0,b1,b2,b3,b4,b5⟩
 refine⟨PySem.W.fnOf "law" "law" (hZ jf) (dH jf) (aS jf) .none kV79 dc79 pm79 an79 cd79 ct79,λs v=>.of_eq rfl,λbase _ _=>?_⟩
 exact K1 D79 D52 D53 D55 D61 (Jj D61 D53 D60 D59 (Jl D60 D53 B) (Jk D59 D58 D57 D56 B) B) D62 (KB D62 T (Jg T D6 (iS D6 D9 (iR D9 D1 D11 B M)) M) (Jc T D6 (iS D6 D9 (iR D9 D1 D11 B M)) M) B) D78 (KF D78 D53 D69 (Ji D69 D53 D68 B) D65 (K0 D65 D63 B) D71 D74 (Jn D74 D66 (Bg D66) D37 (JZ D37 D23 (lg D23 D25 (jv D25 D30 (gJ D30 D31 (gI D31 D32 T (cN T D4 (cO D4 D2 D3)) M)) D6 (iS D6 D9 (iR D9 D1 D11 B M)) T)) D42 (Jd D42 D40 (BY D40 D25 (jv D25 D30 (gJ D30 D31 (gI D31 D32 T (cN T D4 (cO D4 D2 D3)) M)) D6 (iS D6 D9 (iR D9 D1 D11 B M)) T) D23 (lg D23 D25 (jv D25 D30 (gJ D30 D31 (gI D31 D32 T (cN T D4 (cO D4 D2 D3)) M)) D6 (iS D6 D9 (iR D9 D1 D11 B M)) T)) D16 (ot D16 D19 (oj D19 T (cN T D4 (cO D4 D2 D3)) B M) D20 (ou D20 D21 (ow D21 T (cN T D4 (cO D4 D2 D3))) T B) T B M) D14 (xX D14 D8 (xY D8 D3) M)) D13 B)) D36 (Jh D36 D23 (lg D23 D25 (jv D25 D30 (gJ D30 D31 (gI D31 D32 T (cN T D4 (cO D4 D2 D3)) M)) D6 (iS D6 D9 (iR D9 D1 D11 B M)) T)) D18 (xZ D18 D16 (ot D16 D19 (oj D19 T (cN T D4 (cO D4 D2 D3)) B M) D20 (ou D20 D21 (ow D21 T (cN T D4 (cO D4 D2 D3))) T B) T B M)) B) D54 D73 (vT D73 D64 (r9 D64 D63 B) B) D67 (Be D67 D56 B) D64 (r9 D64 D63 B) D40 (BY D40 D25 (jv D25 D30 (gJ D30 D31 (gI D31 D32 T (cN T D4 (cO D4 D2 D3)) M)) D6 (iS D6 D9 (iR D9 D1 D11 B M)) T) D23 (lg D23 D25 (jv D25 D30 (gJ D30 D31 (gI D31 D32 T (cN T D4 (cO D4 D2 D3)) M)) D6 (iS D6 D9 (iR D9 D1 D11 B M)) T)) D16 (ot D16 D19 (oj D19 T (cN T D4 (cO D4 D2 D3)) B M) D20 (ou D20 D21 (ow D21 T (cN T D4 (cO D4 D2 D3))) T B) T B M) D14 (xX D14 D8 (xY D8 D3) M)) D38 (Ju D38 D23 (lg D23 D25 (jv D25 D30 (gJ D30 D31 (gI D31 D32 T (cN T D4 (cO D4 D2 D3)) M)) D6 (iS D6 D9 (iR D9 D1 D11 B M)) T)) D12 B) D68 B) D75 (Js D75 D66 (Bg D66) D41 (Jr D41 D23 (lg D23 D25 (jv D25 D30 (gJ D30 D31 (gI D31 D32 T (cN T D4 (cO D4 D2 D3)) M)) D6 (iS D6 D9 (iR D9 D1 D11 B M)) T)) D7 (oq D7 D10 (oh D10 D1 D11 B M)) D30 (gJ D30 D31 (gI D31 D32 T (cN T D4 (cO D4 D2 D3)) M)) D14 (xX D14 D8 (xY D8 D3) M) D34 (om D34 D32 T (cN T D4 (cO D4 D2 D3)) B M) T M) D73 (vT D73 D64 (r9 D64 D63 B) B) D70 B) D76 (Jw D76 D39 (KC D39 D23 (lg D23 D25 (jv D25 D30 (gJ D30 D31 (gI D31 D32 T (cN T D4 (cO D4 D2 D3)) M)) D6 (iS D6 D9 (iR D9 D1 D11 B M)) T)) D26 (Bd D26 D7 (oq D7 D10 (oh D10 D1 D11 B M)) D30 (gJ D30 D31 (gI D31 D32 T (cN T D4 (cO D4 D2 D3)) M)) D33 D34 (om D34 D32 T (cN T D4 (cO D4 D2 D3)) B M) D15 T M) B) D68 D26 (Bd D26 D7 (oq D7 D10 (oh D10 D1 D11 B M)) D30 (gJ D30 D31 (gI D31 D32 T (cN T D4 (cO D4 D2 D3)) M)) D33 D34 (om D34 D32 T (cN T D4 (cO D4 D2 D3)) B M) D15 T M) D54 D73 (vT D73 D64 (r9 D64 D63 B) B) D28 (BZ D28 D7 (oq D7 D10 (oh D10 D1 D11 B M)) D24 D30 (gJ D30 D31 (gI D31 D32 T (cN T D4 (cO D4 D2 D3)) M)) D29 (Bh D29 D32 T (cN T D4 (cO D4 D2 D3)) D35 (xa D35 D33 D34 (om D34 D32 T (cN T D4 (cO D4 D2 D3)) B M) D15 M) D15 B M) T M) D27 (K5 D27 D7 (oq D7 D10 (oh D10 D1 D11 B M)) D24 D30 (gJ D30 D31 (gI D31 D32 T (cN T D4 (cO D4 D2 D3)) M)) D35 (xa D35 D33 D34 (om D34 D32 T (cN T D4 (cO D4 D2 D3)) B M) D15 M) T M) D70 B M) D77 (Jx D77 D16 (ot D16 D19 (oj D19 T (cN T D4 (cO D4 D2 D3)) B M) D20 (ou D20 D21 (ow D21 T (cN T D4 (cO D4 D2 D3))) T B) T B M) D47 (K4 D47 D18 (xZ D18 D16 (ot D16 D19 (oj D19 T (cN T D4 (cO D4 D2 D3)) B M) D20 (ou D20 D21 (ow D21 T (cN T D4 (cO D4 D2 D3))) T B) T B M)) D48 D5 D17 (K7 D17 D18 (xZ D18 D16 (ot D16 D19 (oj D19 T (cN T D4 (cO D4 D2 D3)) B M) D20 (ou D20 D21 (ow D21 T (cN T D4 (cO D4 D2 D3))) T B) T B M)) D22 (K8 D22 T (cN T D4 (cO D4 D2 D3)) B M) M) D49 D28 (BZ D28 D7 (oq D7 D10 (oh D10 D1 D11 B M)) D24 D30 (gJ D30 D31 (gI D31 D32 T (cN T D4 (cO D4 D2 D3)) M)) D29 (Bh D29 D32 T (cN T D4 (cO D4 D2 D3)) D35 (xa D35 D33 D34 (om D34 D32 T (cN T D4 (cO D4 D2 D3)) B M) D15 M) D15 B M) T M) D50 (Jy D50 D51 (KD D51 T (cN T D4 (cO D4 D2 D3)) B M) T B) T B M) D54 D73 (vT D73 D64 (r9 D64 D63 B) B) D72 (Jz D72 D63 B) D67 (Be D67 D56 B) B Y) D54 D43 (Ja D43 D46 D6 (iS D6 D9 (iR D9 D1 D11 B M)) D44 D23 (lg D23 D25 (jv D25 D30 (gJ D30 D31 (gI D31 D32 T (cN T D4 (cO D4 D2 D3)) M)) D6 (iS D6 D9 (iR D9 D1 D11 B M)) T)) D45 T B M) D68 B Y) T D1 B M
theorem walk {l:PySem.W.OpenLaw}{q:Program}{loose:List Str}{XP:(Str->Option Value)->Heap->Prop}{YP:World->Heap->Prop}{d:DefRec}{K:Params->PySem.W.Frag}(hn:l.most=some 63)(hdf:d.params.defaults=[])
  (hY:∀(w:World) (h:Heap),YP w h->(K w.params).In h)
  (F:∀(w:World) (mg:Str->Option Value) (fa:Addr) (h:Heap),(K w.params).In h->h.Ns mainGlobals mg->mg d.name=some (.ref fa) ->
   ∃ fd:FuncData,(∀(s:Shared) (u:Value),BindsTo s fd ⟨[u],[]⟩ [("_law_script",u)])/\∀ base:Heap,(K w.params).In base->base.Ns mainGlobals mg->aG l.prog w (K w.params) mg base (aH l.prog w) 13 fa fd ["_law_script"] (tw (K w.params))) :
  PySem.W.WalkO q loose XP YP l.row.toRowW d [] (λf vs=>PySem.call f vs) :=
 L2.walk_of (n:=63) (k:=13) (x := "_law_script") (CX:=λw=>aH l.prog w) (sp:=λw=>tw (K w.params)) hn (by decide) hdf ⟨rfl,by decide,by decide⟩ hY F (λ_ _ a ns hl _ hS=>⟨a,ns,rfl,hS,hl,λ_=>rfl⟩) λ_ _ _ _ _ z=>by
  obtain⟨_,_,_,_,_,_,_,_,_,_,_,_,_,_,_,q⟩:=z
  exact q.elim
end K57
open PySem PySem.W PyProof.Rows
def PySem.W.Fast.tw11039258893491283132:Unit:=()
def PySem.W.Fast.tw15338119589820161249:Unit:=()
def PySem.W.Fast.tw15450652831422568822:Unit:=()
def PySem.W.Fast.tw9266216743894947719:Unit:=()
def PySem.W.Fast.tw18037926445734331857:Unit:=()
def PySem.W.Fast.tw16963014291303224561:Unit:=()
def PySem.W.Fast.tw12430567020865047055:Unit:=()
def PySem.W.Fast.tw8567574843712630069:Unit:=()
def PySem.W.Fast.tw15208445980282380579:Unit:=()
def PySem.W.Fast.tw2113187551496810587:Unit:=()
def PySem.W.Fast.tw15333424976031904401:Unit:=()
def PySem.W.Fast.tw13131444694940958182:Unit:=()
def PySem.W.Fast.tw11005719881653144978:Unit:=()
def PySem.W.Fast.tw15261604088819163706:Unit:=()
def PySem.W.Fast.tw2026527155802248328:Unit:=()
def PySem.W.Fast.tw11018330043514747517:Unit:=()
def PySem.W.Fast.tw9600129232107923708:Unit:=()
def PySem.W.Fast.tw14579941167044124977:Unit:=()
def PySem.W.Fast.tw17881278994641297748:Unit:=()
def PySem.W.Fast.tw2165727028737392175:Unit:=()
def PySem.W.Fast.tw5522367924020923946:Unit:=()
def PySem.W.Fast.tw7856161776941765922:Unit:=()
def PySem.W.Fast.tw7701476072239638703:Unit:=()
def PySem.W.Fast.tw13733172774493148285:Unit:=()
def PySem.W.Fast.tw3740526793162837618:Unit:=()
def PySem.W.Fast.tw12848997510401471617:Unit:=()
def PySem.W.Fast.tw8288298092938257967:Unit:=()
def PySem.W.Fast.tw5816340422600350472:Unit:=()
def PySem.W.Fast.tw2263341450365424583:Unit:=()
def PySem.W.Fast.tw9383743176208357315:Unit:=()
def PySem.W.Fast.tw5772861823914709084:Unit:=()
def PySem.W.Fast.tw9370102899663722583:Unit:=()
def PySem.W.Fast.tw8882854255435734681:Unit:=()
def PySem.W.Fast.tw10404100460590593487:Unit:=()
def PySem.W.Fast.tw10693502359125267574:Unit:=()
def PySem.W.Fast.tw1937456870224552654:Unit:=()
def PySem.W.Fast.tw13566999263981024277:Unit:=()
def PySem.W.Fast.tw12770752615999984897:Unit:=()
def PySem.W.Fast.tw13669474541741323949:Unit:=()
def PySem.W.Fast.tw2581889429196478556:Unit:=()
def PySem.W.Fast.tw7541880167784547896:Unit:=()
def PySem.W.Fast.tw13618329989325447592:Unit:=()
def PySem.W.Fast.tw2323665966928639181:Unit:=()
def PySem.W.Fast.tw10783756828667873698:Unit:=()
def PySem.W.Fast.tw11634171315649460943:Unit:=()
def PySem.W.Fast.tw12826337467010043065:Unit:=()
def PySem.W.Fast.tw14806942085951765259:Unit:=()
def PySem.W.Fast.tw4038088477856366196:Unit:=()
def PySem.W.Fast.tw18206576874447834499:Unit:=()
def PySem.W.Fast.tw12915809865444439916:Unit:=()
def PySem.W.Fast.tw17989723466959230682:Unit:=()
def PySem.W.Fast.tw18068401056131507751:Unit:=()
def PySem.W.Fast.tw502395879063760805:Unit:=()
def PySem.W.Fast.tw17105383374124580330:Unit:=()
def PySem.W.Fast.tw15099051777445939331:Unit:=()
def PySem.W.Fast.tw12980634032581567600:Unit:=()
def PySem.W.Fast.tw11077227972217081912:Unit:=()
def PySem.W.Fast.tw11372075621100717814:Unit:=()
def PySem.W.Fast.tw10128969536022695413:Unit:=()
def PySem.W.Fast.tw4032369482927741664:Unit:=()
def PySem.W.Fast.tw17098403378554673175:Unit:=()
def PySem.W.Fast.tw4085603549777862295:Unit:=()
def PySem.W.Fast.tw10500570621796349987:Unit:=()
def PySem.W.Fast.tw6826876227790554714:Unit:=()
def PySem.W.Fast.tw10491094127849233827:Unit:=()
def PySem.W.Fast.tw17992309348363437809:Unit:=()
def PySem.W.Fast.tw9302409047659193409:Unit:=()
def PySem.W.Fast.tw9599945352769573572:Unit:=()
def PySem.W.Fast.tw10800666451932454740:Unit:=()
def PySem.W.Fast.tw15119490480244352488:Unit:=()
def PySem.W.Fast.tw7058856345813899278:Unit:=()
def PySem.W.Fast.tw6205218370662417204:Unit:=()
def PySem.W.Fast.tw8843200959902380516:Unit:=()
def PySem.W.Fast.tw15838010822833883808:Unit:=()
def PySem.W.Fast.tw12683811267909712447:Unit:=()
def PySem.W.Fast.tw6509264998683080630:Unit:=()
def PySem.W.Fast.tw6823650307492018174:Unit:=()
def PySem.W.Fast.tw4171717417376204276:Unit:=()
def PySem.W.Fast.tw17763433150052312732:Unit:=()
def PySem.W.Fast.tw11432488549806856117:Unit:=()
def PySem.W.Fast.tw17462953039334733082:Unit:=()
def PySem.W.Fast.tw5433545927697213110:Unit:=()
def PySem.W.Fast.tw5643794854509132198:Unit:=()
def PySem.W.Fast.tw8524549818564232264:Unit:=()
def PySem.W.Fast.tw2787881702092500155:Unit:=()
def PySem.W.Fast.tw6421161137456093984:Unit:=()
def PySem.W.Fast.tw5316744978782003210:Unit:=()
def PySem.W.Fast.tw13524950238747319347:Unit:=()
def PySem.W.Fast.tw16859004637296232921:Unit:=()
def PySem.W.Fast.tw18023976713660010905:Unit:=()
def PySem.W.Fast.tw13678616444963392665:Unit:=()
def PySem.W.Fast.tw10972141314395984819:Unit:=()
def PySem.W.Fast.tw15593664464546152279:Unit:=()
def PySem.W.Fast.tw9974246114037674980:Unit:=()
def PySem.W.Fast.tw16536698327796094808:Unit:=()
def PySem.W.Fast.tw14744041227936511109:Unit:=()
def PySem.W.Fast.tw10468654576122387243:Unit:=()
def PySem.W.Fast.tw6437897348309355401:Unit:=()
def PySem.W.Fast.tw12842792156191391939:Unit:=()
def PySem.W.Fast.tw5452630899305058627:Unit:=()
def PySem.W.Fast.tw9402777602800625812:Unit:=()
def PySem.W.Fast.tw7836011701429959626:Unit:=()
def PySem.W.Fast.tw2372973435569831602:Unit:=()
def PySem.W.Fast.tw17694809054570462181:Unit:=()
def PySem.W.Fast.tw263959850853618941:Unit:=()
def PySem.W.Fast.tw16129612642986801449:Unit:=()
def PySem.W.Fast.tw16577024087256604838:Unit:=()
def PySem.W.Fast.tw11300737568704960906:Unit:=()
def PySem.W.Fast.tw16556912830822078116:Unit:=()
def PySem.W.Fast.tw4430428639400710199:Unit:=()
def PySem.W.Fast.tw8347929645072901158:Unit:=()
def PySem.W.Fast.tw9542063730724317179:Unit:=()
def PySem.W.Fast.tw14347098761212443645:Unit:=()
def PySem.W.Fast.tw5837869535401526085:Unit:=()
def PySem.W.Fast.tw17281826784881829790:Unit:=()
def PySem.W.Fast.tw10350276802094708857:Unit:=()
def PySem.W.Fast.tw9181868787228662386:Unit:=()
def PySem.W.Fast.tw11188692426417862647:Unit:=()
def PySem.W.Fast.tw266506618493484370:Unit:=()
def PySem.W.Fast.tw9717407577285645213:Unit:=()
def PySem.W.Fast.tw227936146675289212:Unit:=()
def PySem.W.Fast.tw8807278932763510945:Unit:=()
def PySem.W.Fast.tw11098333885484926252:Unit:=()
def PySem.W.Fast.tw16952338602239464410:Unit:=()
def PySem.W.Fast.tw8272327599272298923:Unit:=()
def PySem.W.Fast.tw9632587978233383375:Unit:=()
def PySem.W.Fast.tw10195622961667444483:Unit:=()
def PySem.W.Fast.tw11795932630729112240:Unit:=()
def PySem.W.Fast.tw4893166151890950274:Unit:=()
def PySem.W.Fast.tw18278680708225936406:Unit:=()
def PySem.W.Fast.tw4185309440344540508:Unit:=()
def PySem.W.Fast.tw9912319759558425003:Unit:=()
def PySem.W.Fast.tw12658733342912569348:Unit:=()
def PySem.W.Fast.tw4520735727064095695:Unit:=()
def PySem.W.Fast.tw15884443643398915551:Unit:=()
def PySem.W.Fast.tw17422533088010473594:Unit:=()
def PySem.W.Fast.tw244586473678828817:Unit:=()
def PySem.W.Fast.tw8473213792654388955:Unit:=()
def PySem.W.Fast.tw4474126378533908865:Unit:=()
def PySem.W.Fast.tw13505460654463822746:Unit:=()
def PySem.W.Fast.tw91336634262113113:Unit:=()
def PySem.W.Fast.tw13799131047352355104:Unit:=()
def PySem.W.Fast.tw9018682015199992544:Unit:=()
def PySem.W.Fast.tw6037768128002956638:Unit:=()
def PySem.W.Fast.tw11274749526421469856:Unit:=()
def PySem.W.Fast.tw17423543888642635725:Unit:=()
def PySem.W.Fast.tw2044408666960717887:Unit:=()
def PySem.W.Fast.tw11330576791043822581:Unit:=()
def PySem.W.Fast.tw17118318957180141952:Unit:=()
def PySem.W.Fast.tw4743389870166544222:Unit:=()
def PySem.W.Fast.tw3188965566604276219:Unit:=()
def PySem.W.Fast.tw11218504755099015702:Unit:=()
def PySem.W.Fast.tw8451300635340911909:Unit:=()
def PySem.W.Fast.tw75213115499086664:Unit:=()
def PySem.W.Fast.tw14964772321218674455:Unit:=()
def PySem.W.Fast.tw9025036500613334177:Unit:=()
def PySem.W.Fast.tw1002909630357227813:Unit:=()
def PySem.W.Fast.tw3155809342340643162:Unit:=()
def PySem.W.Fast.tw12103683683621069377:Unit:=()
def PySem.W.Fast.tw10132848338471504506:Unit:=()
def PySem.W.Fast.tw3474664418036061003:Unit:=()
def PySem.W.Fast.tw1593253083846904918:Unit:=()
def PySem.W.Fast.tw6451937198408855040:Unit:=()
def PySem.W.Fast.tw10089602273740957691:Unit:=()
def PySem.W.Fast.tw15443529655903581386:Unit:=()
def PySem.W.Fast.tw6440192345618100580:Unit:=()
def PySem.W.Fast.tw2614992059383634051:Unit:=()
def PySem.W.Fast.tw7327711422110891974:Unit:=()
def PySem.W.Fast.tw13209352451476006940:Unit:=()
def PySem.W.Fast.tw16741874819518463788:Unit:=()
def PySem.W.Fast.tw4381253286744312044:Unit:=()
def PySem.W.Fast.tw8236755188633718464:Unit:=()
def PySem.W.Fast.tw16222843979562731942:Unit:=()
def PySem.W.Fast.tw18320192451113060414:Unit:=()
def PySem.W.Fast.tw3662172032285333147:Unit:=()
def PySem.W.Fast.tw10862767584494808331:Unit:=()
def PySem.W.Fast.tw1126231547549241286:Unit:=()
def PySem.W.Fast.tw7091448172800163951:Unit:=()
def PySem.W.Fast.tw4446799388871962401:Unit:=()
def PySem.W.Fast.tw4639935337897357951:Unit:=()
def PySem.W.Fast.tw11562163399825064669:Unit:=()
def PySem.W.Fast.tw6477300234048947480:Unit:=()
def PySem.W.Fast.tw12404686345435402880:Unit:=()
def PySem.W.Fast.tw1429038132097996436:Unit:=()
def PySem.W.Fast.tw13816510306226279287:Unit:=()
def PySem.W.Fast.tw5005003975665186885:Unit:=()
def PySem.W.Fast.tw13936343534517037389:Unit:=()
def PySem.W.Fast.tw11589137611834582437:Unit:=()
def PySem.W.Fast.tw5851511859426568388:Unit:=()
def PySem.W.Fast.tw4351455078504774406:Unit:=()
def PySem.W.Fast.tw9357010792174683773:Unit:=()
def PySem.W.Fast.tw10535544401646226875:Unit:=()
def PySem.W.Fast.tw10110201897795866514:Unit:=()
def PySem.W.Fast.tw11544515995855455787:Unit:=()
def PySem.W.Fast.tw16236136217724932978:Unit:=()
def PySem.W.Fast.tw12057862725579054254:Unit:=()
def PySem.W.Fast.tw9210581737172559935:Unit:=()
def PySem.W.Fast.tw3006074736506164522:Unit:=()
def PySem.W.Fast.tw11954370387579406344:Unit:=()
def PySem.W.Fast.tw3163425909243187919:Unit:=()
def PySem.W.Fast.tw9946162350894312655:Unit:=()
def PySem.W.Fast.tw17433865900764035408:Unit:=()
def PySem.W.Fast.tw593358227466189324:Unit:=()
def PySem.W.Fast.tw8313285426916042811:Unit:=()
def PySem.W.Fast.tw6850024747557091049:Unit:=()
def PySem.W.Fast.tw3729817596558739738:Unit:=()
def PySem.W.Fast.tw7579293808919226461:Unit:=()
def PySem.W.Fast.tw2256935316205496909:Unit:=()
def PySem.W.Fast.tw5377955714344748513:Unit:=()
def PySem.W.Fast.tw8035773475850679246:Unit:=()
def PySem.W.Fast.tw2325268487923915320:Unit:=()
def PySem.W.Fast.tw7714641536962824372:Unit:=()
def PySem.W.Fast.tw7443653286514407015:Unit:=()
def PySem.W.Fast.tw5780184477978233384:Unit:=()
def PySem.W.Fast.tw13428876910174262771:Unit:=()
def PySem.W.Fast.tw8345904867225800624:Unit:=()
def PySem.W.Fast.tw5146913421013764340:Unit:=()
def PySem.W.Fast.tw16267103286911766726:Unit:=()
def PySem.W.Fast.tw18371350372819962389:Unit:=()
def PySem.W.Fast.tw11168408112498383205:Unit:=()
def PySem.W.Fast.tw4660736738475105112:Unit:=()
def PySem.W.Fast.tw11637876326056887037:Unit:=()
def PySem.W.Fast.tw17969602500985458045:Unit:=()
def PySem.W.Fast.tw1258017622217190601:Unit:=()
def PySem.W.Fast.tw2919266560078179234:Unit:=()
def PySem.W.Fast.tw17691042517721394859:Unit:=()
def PySem.W.Fast.tw10039078930686905546:Unit:=()
def PySem.W.Fast.tw4393763079863257669:Unit:=()
def PySem.W.Fast.tw15625578081358744072:Unit:=()
def PySem.W.Fast.tw14969257292285438932:Unit:=()
def PySem.W.Fast.tw2547948030589088427:Unit:=()
def PySem.W.Fast.tw8970347675567442751:Unit:=()
def PySem.W.Fast.tw13932991105802932510:Unit:=()
def PySem.W.Fast.tw12322383789356595458:Unit:=()
def PySem.W.Fast.tw11657249610784108654:Unit:=()
def PySem.W.Fast.tw10289291630202815825:Unit:=()
def PySem.W.Fast.tw10892503810544433672:Unit:=()
def PySem.W.Fast.tw10949895822816159666:Unit:=()
def PySem.W.Fast.tw15948111602356528519:Unit:=()
def PySem.W.Fast.tw9307144155795388256:Unit:=()
def PySem.W.Fast.tw7550770684630005495:Unit:=()
def PySem.W.Fast.tw4352261005208215671:Unit:=()
def PySem.W.Fast.tw12798403039577187407:Unit:=()
def PySem.W.Fast.tw2020505501817054728:Unit:=()
def PySem.W.Fast.tw6688433870922328487:Unit:=()
def PySem.W.Fast.tw11438506578433912065:Unit:=()
def PySem.W.Fast.tw1661767728132484206:Unit:=()
def PySem.W.Fast.tw14691053059152665987:Unit:=()
def PySem.W.Fast.tw6842116719658746943:Unit:=()
def PySem.W.Fast.tw4817177180715540860:Unit:=()
def PySem.W.Fast.tw11366539677448211958:Unit:=()
def PySem.W.Fast.tw2961091791238263798:Unit:=()
def PySem.W.Fast.tw12578958328426920728:Unit:=()
def PySem.W.Fast.tw4049586318090643405:Unit:=()
def PySem.W.Fast.tw2889811819118412965:Unit:=()
def PySem.W.Fast.tw3394227581372905566:Unit:=()
def PySem.W.Fast.tw8694934848494812663:Unit:=()
def PySem.W.Fast.tw4929354743106960133:Unit:=()
def PySem.W.Fast.tw10178400520531752541:Unit:=()
def PySem.W.Fast.tw10502529003532531322:Unit:=()
def PySem.W.Fast.tw8216125265510648831:Unit:=()
def PySem.W.Fast.tw5047492891628507951:Unit:=()
def PySem.W.Fast.tw2691153111685506499:Unit:=()
def PySem.W.Fast.tw4154776385181770531:Unit:=()
def PySem.W.Fast.tw10820358916637876639:Unit:=()
def PySem.W.Fast.tw16539613499839542434:Unit:=()
def PySem.W.Fast.tw14017477286575065896:Unit:=()
def PySem.W.Fast.tw13011953096621754426:Unit:=()
def PySem.W.Fast.tw10446693334062291358:Unit:=()
def PySem.W.Fast.tw6973505560898787476:Unit:=()
def PySem.W.Fast.tw7277017422429980157:Unit:=()
def PySem.W.Fast.tw8684243932489332630:Unit:=()
def PySem.W.Fast.tw2977468883295625216:Unit:=()
def PySem.W.Fast.tw17017433493605239544:Unit:=()
def PySem.W.Fast.tw9088055564234101605:Unit:=()
def PySem.W.Fast.tw17934661692730715858:Unit:=()
def PySem.W.Fast.tw13915063138780716218:Unit:=()
def PySem.W.Fast.tw4320353862819461869:Unit:=()
def PySem.W.Fast.tw6145219002116089529:Unit:=()
def PySem.W.Fast.tw17887093522026496423:Unit:=()
def PySem.W.Fast.tw7926229846073754736:Unit:=()
def PySem.W.Fast.tw16236436868652859804:Unit:=()
def PySem.W.Fast.tw1555138841370261281:Unit:=()
def PySem.W.Fast.tw11991513416993707455:Unit:=()
def PySem.W.Fast.tw15362726083502856131:Unit:=()
def PySem.W.Fast.tw4010684874252440227:Unit:=()
def PySem.W.Fast.tw3173577212662198262:Unit:=()
def PySem.W.Fast.tw7578938387649556664:Unit:=()
def PySem.W.Fast.tw7953110785170883521:Unit:=()
def PySem.W.Fast.tw13816369326886282154:Unit:=()
def PySem.W.Fast.tw12251803209023513792:Unit:=()
def PySem.W.Fast.tw3367014756596103007:Unit:=()
def PySem.W.Fast.tw14960261028638882928:Unit:=()
def PySem.W.Fast.tw3013474049342114369:Unit:=()
def PySem.W.Fast.tw15800603955653994266:Unit:=()
def PySem.W.Fast.tw1507380645324155322:Unit:=()
def PySem.W.Fast.tw18034129611841733385:Unit:=()
def PySem.W.Fast.tw12937299382714317268:Unit:=()
def PySem.W.Fast.tw704640277336144748:Unit:=()
def PySem.W.Fast.tw7287030099433948587:Unit:=()
def PySem.W.Fast.tw6967286917315982324:Unit:=()
def PySem.W.Fast.tw10083383830829776056:Unit:=()
def PySem.W.Fast.tw12373031662783468868:Unit:=()
def PySem.W.Fast.tw10102794364435673684:Unit:=()
def PySem.W.Fast.tw9416124415849168328:Unit:=()
def PySem.W.Fast.tw12566616597598586654:Unit:=()
def PySem.W.Fast.tw16528248706164491584:Unit:=()
def PySem.W.Fast.tw16015652498078434245:Unit:=()
def PySem.W.Fast.tw17345147901097166471:Unit:=()
def PySem.W.Fast.tw17865329677467384024:Unit:=()
def PySem.W.Fast.tw16929286000283648419:Unit:=()
def PySem.W.Fast.tw12560640869894510187:Unit:=()
def PySem.W.Fast.tw11795441866464584536:Unit:=()
def PySem.W.Fast.tw15037490316194084099:Unit:=()
def PySem.W.Fast.tw14233596605744034338:Unit:=()
def PySem.W.Fast.tw9741567464421282291:Unit:=()
def PySem.W.Fast.tw9637684203121580610:Unit:=()
def PySem.W.Fast.tw12636088926053066267:Unit:=()
def PySem.W.Fast.tw6024520301284250330:Unit:=()
def PySem.W.Fast.tw12073294630647531979:Unit:=()
def PySem.W.Fast.tw8205361696121484901:Unit:=()
def PySem.W.Fast.tw1672508458683140156:Unit:=()
def PySem.W.Fast.tw2848734726054849540:Unit:=()
def PySem.W.Fast.tw9284130341818973275:Unit:=()
def PySem.W.Fast.tw1666283504268887804:Unit:=()
def PySem.W.Fast.tw3453291207882758251:Unit:=()
def PySem.W.Fast.tw8346505323975552648:Unit:=()
def PySem.W.Fast.tw310066801255693443:Unit:=()
def PySem.W.Fast.tw3390794341268314797:Unit:=()
def PySem.W.Fast.tw13915113873066111584:Unit:=()
def PySem.W.Fast.tw34613967431887130:Unit:=()
def PySem.W.Fast.tw9600156614508832488:Unit:=()
def PySem.W.Fast.tw4117748936462352488:Unit:=()
set_option maxRecDepth 100000 in
set_option maxHeartbeats 0 in
theorem PySem.Challenge.cw_wapentake_k57_whole_one_table_asked_over_holds : PySem.Challenge.rw_wapentake_k57_whole_one_table_asked_over.Holds := by
  w_on; o_law; k_head; (case hw => w_witness2)
  k_fill
  refine K57.walk (l:=PySem.Challenge.rw_wapentake_k57_whole_one_table_asked_over) rfl rfl (fun w h Y => PySem.W.kIn_of Y) ?F
  case F =>
    intro w mg fa h KX G hmg
    refine' K57.Of KX G hmg (L2.Mb KX G ?a1 ?l1 ?c1 ?k1 λ_ _ _ _ _ _=>L2.u1 λ_=>rfl) (L2.Mb KX G ?a2 ?l2 ?c2 ?k2 λ_ _ _ _ _ _=>L2.u2 λ_ _=>rfl) (L2.Mb KX G ?a3 ?l3 ?c3 ?k3 λ_ _ _ _ _ _=>L2.u1 λ_=>rfl) (L2.Mb KX G ?a4 ?l4 ?c4 ?k4 λ_ _ _ _ _ _=>L2.u5 λ_ _ _ _ _=>rfl) (L2.Mb KX G ?a5 ?l5 ?c5 ?k5 λ_ _ _ _ _ _=>L2.u2 λ_ _=>rfl) (L2.Mb KX G ?a6 ?l6 ?c6 ?k6 λ_ _ _ _ _ _=>L2.u2 λ_ _=>rfl) (L2.Mb KX G ?a7 ?l7 ?c7 ?k7 λ_ _ _ _ _ _=>L2.u2 λ_ _=>rfl) (L2.Mb KX G ?a8 ?l8 ?c8 ?k8 λ_ _ _ _ _ _=>L2.u1 λ_=>rfl) (L2.Mb KX G ?a9 ?l9 ?c9 ?k9 λ_ _ _ _ _ _=>L2.u2 λ_ _=>rfl) (L2.Mb KX G ?a10 ?l10 ?c10 ?k10 λ_ _ _ _ _ _=>L2.u2 λ_ _=>rfl) (L2.Mb KX G ?a11 ?l11 ?c11 ?k11 λ_ _ _ _ _ _=>L2.u2 λ_ _=>rfl) (L2.Mb KX G ?a12 ?l12 ?c12 ?k12 λ_ _ _ _ _ _=>L2.u3 λ_ _ _=>rfl) (L2.Mb KX G ?a13 ?l13 ?c13 ?k13 λ_ _ _ _ _ _=>L2.u2 λ_ _=>rfl) (L2.Mb KX G ?a14 ?l14 ?c14 ?k14 λ_ _ _ _ _ _=>L2.u2 λ_ _=>rfl) (L2.Mb KX G ?a15 ?l15 ?c15 ?k15 λ_ _ _ _ _ _=>L2.u3 λ_ _ _=>rfl) (L2.Mb KX G ?a16 ?l16 ?c16 ?k16 λ_ _ _ _ _ _=>L2.u1 λ_=>rfl) (L2.Mb KX G ?a17 ?l17 ?c17 ?k17 λ_ _ _ _ _ _=>L2.u1 λ_=>rfl) (L2.Mb KX G ?a18 ?l18 ?c18 ?k18 λ_ _ _ _ _ _=>L2.u1 λ_=>rfl) (L2.Mb KX G ?a19 ?l19 ?c19 ?k19 λ_ _ _ _ _ _=>L2.u2 λ_ _=>rfl) (L2.Mb KX G ?a20 ?l20 ?c20 ?k20 λ_ _ _ _ _ _=>L2.u2 λ_ _=>rfl) (L2.Mb KX G ?a21 ?l21 ?c21 ?k21 λ_ _ _ _ _ _=>L2.u3 λ_ _ _=>rfl) (L2.Mb KX G ?a22 ?l22 ?c22 ?k22 λ_ _ _ _ _ _=>L2.u3 λ_ _ _=>rfl) (L2.Mb KX G ?a23 ?l23 ?c23 ?k23 λ_ _ _ _ _ _=>L2.u2 λ_ _=>rfl) (L2.Mb KX G ?a24 ?l24 ?c24 ?k24 λ_ _ _ _ _ _=>L2.u1 λ_=>rfl) (L2.Mb KX G ?a25 ?l25 ?c25 ?k25 λ_ _ _ _ _ _=>L2.u2 λ_ _=>rfl) (L2.Mb KX G ?a26 ?l26 ?c26 ?k26 λ_ _ _ _ _ _=>L2.u2 λ_ _=>rfl) (L2.Mb KX G ?a27 ?l27 ?c27 ?k27 λ_ _ _ _ _ _=>L2.u2 λ_ _=>rfl) (L2.Mb KX G ?a28 ?l28 ?c28 ?k28 λ_ _ _ _ _ _=>L2.u2 λ_ _=>rfl) (L2.Mb KX G ?a29 ?l29 ?c29 ?k29 λ_ _ _ _ _ _=>L2.u2 λ_ _=>rfl) (L2.Mb KX G ?a30 ?l30 ?c30 ?k30 λ_ _ _ _ _ _=>L2.u2 λ_ _=>rfl) (L2.Mb KX G ?a31 ?l31 ?c31 ?k31 λ_ _ _ _ _ _=>L2.u3 λ_ _ _=>rfl) (L2.Mb KX G ?a32 ?l32 ?c32 ?k32 λ_ _ _ _ _ _=>L2.u1 λ_=>rfl) (L2.Mb KX G ?a33 ?l33 ?c33 ?k33 λ_ _ _ _ _ _=>L2.u1 λ_=>rfl) (L2.Mb KX G ?a34 ?l34 ?c34 ?k34 λ_ _ _ _ _ _=>L2.u4 λ_ _ _ _=>rfl) (L2.Mb KX G ?a35 ?l35 ?c35 ?k35 λ_ _ _ _ _ _=>L2.u2 λ_ _=>rfl) (L2.Mb KX G ?a36 ?l36 ?c36 ?k36 λ_ _ _ _ _ _=>L2.u3 λ_ _ _=>rfl) (L2.Mb KX G ?a37 ?l37 ?c37 ?k37 λ_ _ _ _ _ _=>L2.u3 λ_ _ _=>rfl) (L2.Mb KX G ?a38 ?l38 ?c38 ?k38 λ_ _ _ _ _ _=>L2.u4 λ_ _ _ _=>rfl) (L2.Mb KX G ?a39 ?l39 ?c39 ?k39 λ_ _ _ _ _ _=>L2.u3 λ_ _ _=>rfl) (L2.Mb KX G ?a40 ?l40 ?c40 ?k40 λ_ _ _ _ _ _=>L2.u2 λ_ _=>rfl) (L2.Mb KX G ?a41 ?l41 ?c41 ?k41 λ_ _ _ _ _ _=>L2.u3 λ_ _ _=>rfl) (L2.Mb KX G ?a42 ?l42 ?c42 ?k42 λ_ _ _ _ _ _=>L2.u3 λ_ _ _=>rfl) (L2.Mb KX G ?a43 ?l43 ?c43 ?k43 λ_ _ _ _ _ _=>L2.u2 λ_ _=>rfl) (L2.Mb KX G ?a44 ?l44 ?c44 ?k44 λ_ _ _ _ _ _=>L2.u1 λ_=>rfl) (L2.Mb KX G ?a45 ?l45 ?c45 ?k45 λ_ _ _ _ _ _=>L2.u2 λ_ _=>rfl) (L2.Mb KX G ?a46 ?l46 ?c46 ?k46 λ_ _ _ _ _ _=>L2.u2 λ_ _=>rfl) (L2.Mb KX G ?a47 ?l47 ?c47 ?k47 λ_ _ _ _ _ _=>L2.u2 λ_ _=>rfl) (L2.Mb KX G ?a48 ?l48 ?c48 ?k48 λ_ _ _ _ _ _=>L2.u2 λ_ _=>rfl) (L2.Mb KX G ?a49 ?l49 ?c49 ?k49 λ_ _ _ _ _ _=>L2.u1 λ_=>rfl) (L2.Mb KX G ?a50 ?l50 ?c50 ?k50 λ_ _ _ _ _ _=>L2.u2 λ_ _=>rfl) (L2.Mb KX G ?a51 ?l51 ?c51 ?k51 λ_ _ _ _ _ _=>L2.u3 λ_ _ _=>rfl) (L2.Mb KX G ?a52 ?l52 ?c52 ?k52 λ_ _ _ _ _ _=>L2.u2 λ_ _=>rfl) (L2.Mb KX G ?a53 ?l53 ?c53 ?k53 λ_ _ _ _ _ _=>L2.u2 λ_ _=>rfl) (L2.Mb KX G ?a54 ?l54 ?c54 ?k54 λ_ _ _ _ _ _=>L2.u2 λ_ _=>rfl) (L2.Mb KX G ?a55 ?l55 ?c55 ?k55 λ_ _ _ _ _ _=>L2.u1 λ_=>rfl) (L2.Mb KX G ?a56 ?l56 ?c56 ?k56 λ_ _ _ _ _ _=>L2.u1 λ_=>rfl) (L2.Mb KX G ?a57 ?l57 ?c57 ?k57 λ_ _ _ _ _ _=>L2.u3 λ_ _ _=>rfl) (L2.Mb KX G ?a58 ?l58 ?c58 ?k58 λ_ _ _ _ _ _=>L2.u2 λ_ _=>rfl) (L2.Mb KX G ?a59 ?l59 ?c59 ?k59 λ_ _ _ _ _ _=>L2.u3 λ_ _ _=>rfl) (L2.Mb KX G ?a60 ?l60 ?c60 ?k60 λ_ _ _ _ _ _=>L2.u1 λ_=>rfl) (L2.Mb KX G ?a61 ?l61 ?c61 ?k61 λ_ _ _ _ _ _=>L2.u3 λ_ _ _=>rfl) (L2.Mb KX G ?a62 ?l62 ?c62 ?k62 λ_ _ _ _ _ _=>L2.u4 λ_ _ _ _=>rfl) (L2.Mb KX G ?a63 ?l63 ?c63 ?k63 λ_ _ _ _ _ _=>L2.u5 λ_ _ _ _ _=>rfl) (L2.Mb KX G ?a64 ?l64 ?c64 ?k64 λ_ _ _ _ _ _=>L2.u2 λ_ _=>rfl) (L2.Mb KX G ?a65 ?l65 ?c65 ?k65 λ_ _ _ _ _ _=>L2.u2 λ_ _=>rfl) (L2.Mb KX G ?a66 ?l66 ?c66 ?k66 λ_ _ _ _ _ _=>L2.u3 λ_ _ _=>rfl) (L2.Mb KX G ?a67 ?l67 ?c67 ?k67 λ_ _ _ _ _ _=>L2.u2 λ_ _=>rfl) (L2.Mb KX G ?a68 ?l68 ?c68 ?k68 λ_ _ _ _ _ _=>L2.u3 λ_ _ _=>rfl) (L2.Mb KX G ?a69 ?l69 ?c69 ?k69 λ_ _ _ _ _ _=>L2.u2 λ_ _=>rfl) (L2.Mb KX G ?a70 ?l70 ?c70 ?k70 λ_ _ _ _ _ _=>L2.u2 λ_ _=>rfl) (L2.Mb KX G ?a71 ?l71 ?c71 ?k71 λ_ _ _ _ _ _=>L2.u2 λ_ _=>rfl) (L2.Mb KX G ?a72 ?l72 ?c72 ?k72 λ_ _ _ _ _ _=>L2.u3 λ_ _ _=>rfl) (L2.Mb KX G ?a73 ?l73 ?c73 ?k73 λ_ _ _ _ _ _=>L2.u2 λ_ _=>rfl) (L2.Mb KX G ?a74 ?l74 ?c74 ?k74 λ_ _ _ _ _ _=>L2.u6 λ_ _ _ _ _ _=>rfl) (L2.Mb KX G ?a75 ?l75 ?c75 ?k75 λ_ _ _ _ _ _=>L2.u6 λ_ _ _ _ _ _=>rfl) (L2.Mb KX G ?a76 ?l76 ?c76 ?k76 λ_ _ _ _ _ _=>L2.u6 λ_ _ _ _ _ _=>rfl) (L2.Mb KX G ?a77 ?l77 ?c77 ?k77 λ_ _ _ _ _ _=>L2.u5 λ_ _ _ _ _=>rfl) (L2.Mb KX G ?a78 ?l78 ?c78 ?k78 λ_ _ _ _ _ _=>L2.u4 λ_ _ _ _=>rfl) ?a79 ?l79 ?c79 ?k79 ?tC ?t1 ?t2 ?t3 ?t4 ?t5 ?t6 ?n_questions ?n_kept ?n_both ?ha0 ?hf0 ?hl0 ?hc0 ?hk0 ?ha1 ?hf1 ?hl1 ?hc1 ?hk1 ?ha2 ?hf2 ?hl2 ?hc2 ?hk2 ?ha3 ?hf3 ?hl3 ?hc3 ?hk3 ?ha4 ?hf4 ?hl4 ?hc4 ?hk4 ?ha5 ?hf5 ?hl5 ?hc5 ?hk5 ?gq ?gs ?z0 ?z1 ?z2 ?z3 ?z4 ?z5 ?z6 ?z7 ?z8 ?z9 ?z10 ?z11 ?z12 ?z13 ?z14 ?z15 ?z16
    case a1|l1|c1|k1|a2|l2|c2|k2|a3|l3|c3|k3|a4|l4|c4|k4|a5|l5|c5|k5|a6|l6|c6|k6|a7|l7|c7|k7|a8|l8|c8|k8|a9|l9|c9|k9|a10|l10|c10|k10|a11|l11|c11|k11|a12|l12|c12|k12|a13|l13|c13|k13|a14|l14|c14|k14|a15|l15|c15|k15|a16|l16|c16|k16|a17|l17|c17|k17|a18|l18|c18|k18|a19|l19|c19|k19|a20|l20|c20|k20|a21|l21|c21|k21|a22|l22|c22|k22|a23|l23|c23|k23|a24|l24|c24|k24|a25|l25|c25|k25|a26|l26|c26|k26|a27|l27|c27|k27|a28|l28|c28|k28|a29|l29|c29|k29|a30|l30|c30|k30|a31|l31|c31|k31|a32|l32|c32|k32|a33|l33|c33|k33|a34|l34|c34|k34|a35|l35|c35|k35|a36|l36|c36|k36|a37|l37|c37|k37|a38|l38|c38|k38|a39|l39|c39|k39|a40|l40|c40|k40|a41|l41|c41|k41|a42|l42|c42|k42|a43|l43|c43|k43|a44|l44|c44|k44|a45|l45|c45|k45|a46|l46|c46|k46|a47|l47|c47|k47|a48|l48|c48|k48|a49|l49|c49|k49|a50|l50|c50|k50|a51|l51|c51|k51|a52|l52|c52|k52|a53|l53|c53|k53|a54|l54|c54|k54|a55|l55|c55|k55|a56|l56|c56|k56|a57|l57|c57|k57|a58|l58|c58|k58|a59|l59|c59|k59|a60|l60|c60|k60|a61|l61|c61|k61|a62|l62|c62|k62|a63|l63|c63|k63|a64|l64|c64|k64|a65|l65|c65|k65|a66|l66|c66|k66|a67|l67|c67|k67|a68|l68|c68|k68|a69|l69|c69|k69|a70|l70|c70|k70|a71|l71|c71|k71|a72|l72|c72|k72|a73|l73|c73|k73|a74|l74|c74|k74|a75|l75|c75|k75|a76|l76|c76|k76|a77|l77|c77|k77|a78|l78|c78|k78|a79|l79|c79|k79|tC|t1|t2|t3|t4|t5|t6|n_questions|n_kept|n_both|ha0|hf0|hl0|hc0|hk0|ha1|hf1|hl1|hc1|hk1|ha2|hf2|hl2|hc2|hk2|ha3|hf3|hl3|hc3|hk3|ha4|hf4|hl4|hc4|hk4|ha5|hf5|hl5|hc5|hk5|gq|gs|z0|z1|z2|z3|z4|z5|z6|z7|z8|z9|z10|z11|z12|z13|z14|z15|z16=>k_is
