import PyProof.Rows.All
import Wide.All
import OpenK.AllK
import Wide.FinOn
import Lean
import PyProof.EqAt
import PyProof.EqKinds
import PyProof.TupleCall
import PySem.Challenge.RW_wapentake_k28_oaths_refused_in_order
import KE.KUnpack
import PyProof.Draws
import PyProof.EnumMake
import PyProof.Rows.EnumRows
import KE.KDictSum
import PyProof.Rows.SeqCalls
import KE.KPairRows
import PyProof.StrLawsIn
import PyProof.NeKinds
import PyProof.Rows.EqBoolInt
import PyProof.StrBlockH
import PyProof.FString5
import PyProof.SliceList
import PyProof.DictIter
import PyProof.DictWalks
import KE.KLam
import KE.KNestM
import PyProof.Rows.TupDisplay
import KE.KDictOf
import PyProof.AttrMissHeap
import PyProof.ConsumeS
import PyProof.DictList
set_option Elab.async false
set_option linter.all false
set_option maxRecDepth 100000
namespace L2
open PySem PySem.Spec PyProof.Rows
abbrev Key := Sum Int Str
def keyIs : Key → Value → Bool
  | .inl k, v => Value.isInt k v
  | .inr x, v => Value.isStrOf x v
def keyH (w : World) : Key → Int
  | .inl k => hashInt k
  | .inr x => hashStr w x
theorem keyIs_shape : ∀ {k : Key} {v : Value}, keyIs k v = true → (∃ i t, k = Sum.inl i ∧ v = Value.int i t) ∨ (∃ x t, k = Sum.inr x ∧ v = Value.str x t)
  | .inl i, v, h => by
    obtain ⟨t, e⟩ := Value.isInt_shape (k := i) (v := v) h
    exact .inl ⟨i, t, rfl, e⟩
  | .inr x, v, h => by
    obtain ⟨t, e⟩ := Value.isStrOf_shape (x := x) (v := v) h
    exact .inr ⟨x, t, rfl, e⟩
theorem keyIs_int (i : Int) (t : Tok) : keyIs (.inl i) (.int i t) = true := by simp [keyIs, Value.isInt]
theorem keyIs_str (x : Str) (t : Tok) : keyIs (.inr x) (.str x t) = true := by simp [keyIs, Value.isStrOf]
theorem key_ll (a b : Int) : decide ((Sum.inl a : Key) = Sum.inl b) = (a == b) := by
  by_cases e : a = b
  · subst e; simp
  · have h : ¬ (Sum.inl a : Key) = Sum.inl b := fun q => e (Sum.inl.inj q)
    rw [decide_eq_false h]
    exact (beq_eq_false_iff_ne.mpr e).symm
theorem key_rr (a b : Str) : decide ((Sum.inr a : Key) = Sum.inr b) = decide (a = b) := by
  by_cases e : a = b
  · subst e; simp
  · have h : ¬ (Sum.inr a : Key) = Sum.inr b := fun q => e (Sum.inr.inj q)
    rw [decide_eq_false h, decide_eq_false e]
theorem key_lr (a : Int) (b : Str) : decide ((Sum.inl a : Key) = Sum.inr b) = false := decide_eq_false (fun q => nomatch q)
theorem key_rl (a : Str) (b : Int) : decide ((Sum.inr a : Key) = Sum.inl b) = false := decide_eq_false (fun q => nomatch q)
def mixKind (prog : Program) (w : World) : PySem.KeyKind prog w Key where
  is := keyIs
  hash := keyH w
  inj := fun v a b ha hb => by
    rcases keyIs_shape ha with ⟨i, t, rfl, rfl⟩ | ⟨x, t, rfl, rfl⟩
    · rcases keyIs_shape hb with ⟨j, u, rfl, e⟩ | ⟨y, u, rfl, e⟩
      · injection e with e1 _; rw [e1]
      · exact nomatch e
    · rcases keyIs_shape hb with ⟨j, u, rfl, e⟩ | ⟨y, u, rfl, e⟩
      · exact nomatch e
      · injection e with e1 _; rw [e1]
  byValue := fun k v h => by
    rcases keyIs_shape h with ⟨i, t, rfl, rfl⟩ | ⟨x, t, rfl, rfl⟩ <;> rfl
  pyHash := fun hv h => by
    rcases keyIs_shape hv with ⟨i, t, rfl, rfl⟩ | ⟨x, t, rfl, rfl⟩
    · exact wpAny_pyHash_int h
    · exact wpAny_pyHash_str h
  eqBool := fun hu hv h => by
    rcases keyIs_shape hu with ⟨i, t, rfl, rfl⟩ | ⟨x, t, rfl, rfl⟩
    · rcases keyIs_shape hv with ⟨j, u, rfl, rfl⟩ | ⟨y, u, rfl, rfl⟩
      · rw [key_ll] at h; exact wpAny_eqBool_int h
      · rw [key_lr] at h; exact SeqAt.EqAt.int_str i t y u _ _ _ _ h
    · rcases keyIs_shape hv with ⟨j, u, rfl, rfl⟩ | ⟨y, u, rfl, rfl⟩
      · rw [key_rl] at h; exact SeqAt.EqAt.str_int x t j u _ _ _ _ h
      · rw [key_rr] at h; exact wpAny_eqBool_str h
  «strs» := fun k x t v h => by
    rcases keyIs_shape h with ⟨i, u, rfl, e⟩ | ⟨y, u, rfl, e⟩
    · exact nomatch e
    · injection e with e1 _
      subst e1
      cases v <;> rfl
theorem mixKind_int (prog : Program) (w : World) (i : Int) (t : Tok) : (mixKind prog w).is (.inl i) (.int i t) = true := keyIs_int i t
theorem mixKind_str (prog : Program) (w : World) (x : Str) (t : Tok) : (mixKind prog w).is (.inr x) (.str x t) = true := keyIs_str x t
end L2
namespace L2
open PySem PySem.Spec PyProof.Rows
inductive V where
  | non | bl (b : Bool) | int (i : Int) | str (x : Str) | byt (b : Array UInt8) | flt (b : UInt64) | ref (a : Addr) | ty (n : String)
  deriving DecidableEq
def RelV : V → Value → Prop
  | .non, u => u = Value.none
  | .bl b, u => u = Value.bool b
  | .int i, u => ∃ t, u = Value.int i t
  | .str x, u => ∃ t, u = Value.str x t
  | .byt b, u => ∃ t, u = Value.bytes b t
  | .flt b, u => ∃ t, u = Value.float b t
  | .ref a, u => u = Value.ref a
  | .ty n, u => u = Value.type n
abbrev Vals : List V → List Value → Prop := Paired RelV
theorem Vals.length {xs : List V} {us : List Value} (r : Vals xs us) : xs.length = us.length := Paired.length r
theorem Vals.get : ∀ {xs : List V} {us : List Value} {i : Nat} {x : V}, Vals xs us → xs[i]? = some x → ∃ u, us[i]? = some u ∧ RelV x u
  | _, _, _, _, .nil, e => by simp at e
  | _, _, 0, _, .cons r _, e => by simp at e; subst e; exact ⟨_, rfl, r⟩
  | _, _, i + 1, x, .cons _ t, e => by
    obtain ⟨u, h1, h2⟩ := Vals.get (i := i) (x := x) t (by simpa using e)
    exact ⟨u, by simpa using h1, h2⟩
theorem Vals.set {x : V} {u : Value} (r : RelV x u) : ∀ {xs : List V} {us : List Value} (i : Nat), Vals xs us → Vals (xs.set i x) (us.set i u)
  | _, _, _, .nil => .nil
  | _, _, 0, .cons _ t => .cons r t
  | _, _, i + 1, .cons q t => .cons q (Vals.set r i t)
theorem Vals.append : ∀ {xs ys : List V} {us ws : List Value}, Vals xs us → Vals ys ws → Vals (xs ++ ys) (us ++ ws)
  | _, _, _, _, .nil, s => s
  | _, _, _, _, .cons r t, s => .cons r (Vals.append t s)
theorem Vals.take : ∀ {xs : List V} {us : List Value} (n : Nat), Vals xs us → Vals (xs.take n) (us.take n)
  | _, _, 0, _ => .nil
  | _, _, _ + 1, .nil => .nil
  | _, _, n + 1, .cons r t => .cons r (Vals.take n t)
theorem Vals.drop : ∀ {xs : List V} {us : List Value} (n : Nat), Vals xs us → Vals (xs.drop n) (us.drop n)
  | _, _, 0, r => r
  | _, _, _ + 1, .nil => .nil
  | _, _, n + 1, .cons _ t => Vals.drop n t
def RelO : Option V → Option Value → Prop
  | some v, some u => RelV v u
  | none, none => True
  | _, _ => False
def KV {κ : Type} : List (κ × V) → List (κ × Value) → Prop := Paired fun (p : κ × V) (q : κ × Value) => p.1 = q.1 ∧ RelV p.2 q.2
def kV : Key → V
  | .inl i => .int i
  | .inr x => .str x
inductive HO where
  /-- a list -/
  | lst (xs : List V)
  /-- a tuple (never changes) -/
  | tup (xs : List V)
  /-- a dict whose keys are ints and texts; one whose keys are tuples of ints and texts (the empty one is both) -/
  | dK (kvs : List (Key × V)) | dT (kvs : List (List Key × V))
  /-- a set of ints: its members, its size -/
  | set (S : Int → Bool) (n : Nat)
  /-- an instance of the class at C, its dict at dx, its attributes -/
  | ins (C dx : Addr) (fs : List (Str × V))
  /-- the dict of the instance at x -/
  | own (x : Addr)
  /-- the dict of an exception -/
  | xd (fs : List (Str × V))
  /-- a bound method, f of x -/
  | met (f x : Addr)
  /-- a range object lo, lo + 1, .. below hi -/
  | rng (lo hi : Int)
  /-- a thing that is known to the object (the script; a dict while a loop walks it): read, never written while it is so -/
  | frz (o : Obj) (u : HO)
  /-- a code object's table -/
  | tbl (ps : Array Value)
  /-- any other thing, by what is true of its one object (a def of one's own: SetO a S n := HO.ext fun h => ..) -/
  | ext (φ : Heap → Prop)
abbrev Hp := Addr → Option HO
def upd (H : Hp) (a : Addr) (o : HO) : Hp := fun b => if b = a then some o else H b
theorem upd_same {H : Hp} {a : Addr} {o : HO} : upd H a o a = some o := by unfold upd; rw [if_pos rfl]
theorem upd_ne {H : Hp} {a b : Addr} {o : HO} (h : b ≠ a) : upd H a o b = H b := by unfold upd; rw [if_neg h]
theorem ne_of {H : Hp} {a b : Addr} {o u : HO} (h : H a = some o) (h' : H b = some u) (d : o ≠ u) : a ≠ b := by
  intro e; subst e; rw [h] at h'; exact d (Option.some.inj h')
theorem ne_of_none {H : Hp} {a b : Addr} {o : HO} (h : H a = some o) (h' : H b = none) : a ≠ b := by
  intro e; subst e; rw [h] at h'; cases h'
section
variable (P : Program) (w : World)
def ObjOk (H : Hp) (h : Heap) (a : Addr) : HO → Prop
  | .lst xs => xs.length ≤ sizeLine ∧ ∃ (its : List Value) (n : Nat), Vals xs its ∧ h.get? a = some { cls := .type "list", data := .seq its.toArray n }
  | .tup xs => xs.length ≤ sizeLine ∧ ∃ its : List Value, Vals xs its ∧ IsTup h a its.toArray
  | .dK kvs => kvs.length ≤ sizeLine ∧ (a == sysModules) = false ∧ ∃ vs, KV kvs vs ∧ h.DictOf (mixKind P w) a vs
  | .dT kvs => kvs.length ≤ sizeLine ∧ (a == sysModules) = false ∧ ∃ xs : List (List Key × Addr × Value),
      Paired (fun (p : List Key × V) (q : List Key × Addr × Value) => p.1 = q.1 ∧ H q.2.1 = some (.tup (p.1.map kV)) ∧ RelV p.2 q.2.2) kvs xs ∧
      ∃ o es ep, h.get? a = some o ∧ o.ExactDict ∧ o.data = .dict es ep ∧ es.toList = xs.map (entryOfKey (tupleKind (mixKind P w))) ∧ (xs.map (·.1)).Nodup
  | .set S n => h.SetOf (intKind P w) a S n
  | .ins C dx fs => H dx = some (.own a) ∧ fs.length ≤ 1000 ∧ dx ≠ a ∧ h.get? a = some (PySem.W.instObj C dx) ∧
      ∃ mA, h.Ns1 dx mA ∧ (∀ f, RelO (fs.lookup f) (mA f)) ∧ PySem.Within mA (fs.map (·.1))
  | .own _ => ∃ o, h.get? a = some o
  | .xd fs => ∃ mA, h.Ns1 a mA ∧ ∀ f, RelO (fs.lookup f) (mA f)
  | .rng lo hi => ∃ t u v, h.get? a = some { cls := .type "range", data := .fields #[.int lo t, .int hi u, .int 1 v] }
  | .frz o u => h.get? a = some o ∧ ObjOk H h a u
  | .tbl ps => h.get? a = some { cls := .none, data := .fields ps }
  | .met f x => h.get? a = some (PySem.W.methodObj (.ref f) (.ref x))
  | .ext φ => φ h ∧ (∃ o, h.get? a = some o) ∧ ∀ h1 h2 : Heap, φ h1 → (∀ o, h1.get? a = some o → h2.get? a = some o) → φ h2
def HOk (H : Hp) (h : Heap) : Prop := ∀ a o, H a = some o → ObjOk P w H h a o
end
section
variable {P : Program} {w : World} {H H' : Hp} {h h' : Heap} {a : Addr} {o : HO}
theorem ObjOk.lt (x : ObjOk P w H h a o) : a < h.objs.size := by
  cases o with
  | lst xs => obtain ⟨_, _, _, _, e⟩ := x; exact Heap.lt_size e
  | tup xs => obtain ⟨_, _, _, p⟩ := x; exact p.lt
  | dK kvs => obtain ⟨_, _, _, _, o, _, _, e, _⟩ := x; exact Heap.lt_size e
  | dT kvs => obtain ⟨_, _, _, _, o, _, _, e, _⟩ := x; exact Heap.lt_size e
  | set S n => obtain ⟨o, _, _, _, e, _⟩ := x; exact Heap.lt_size e
  | ins C dx fs => obtain ⟨_, _, _, e, _⟩ := x; exact Heap.lt_size e
  | own y => obtain ⟨_, e⟩ := x; exact Heap.lt_size e
  | xd fs => obtain ⟨_, ⟨_, _, _, e, _⟩, _⟩ := x; exact Heap.lt_size e
  | rng lo hi => obtain ⟨_, _, _, e⟩ := x; exact Heap.lt_size e
  | frz ob u => obtain ⟨e, _⟩ := x; exact Heap.lt_size e
  | tbl ps => exact Heap.lt_size (show h.get? a = some _ from x)
  | met f y => exact Heap.lt_size (show h.get? a = some _ from x)
  | ext φ => obtain ⟨_, ⟨_, e⟩, _⟩ := x; exact Heap.lt_size e
theorem Paired.mapP {α β : Type} {F G : α → β → Prop} : ∀ {l₁ : List α} {l₂ : List β}, Paired F l₁ l₂ → (∀ a b, F a b → G a b) → Paired G l₁ l₂
  | _, _, .nil, _ => .nil
  | _, _, .cons r t, f => .cons (f _ _ r) (Paired.mapP t f)
theorem ObjOk.stay (x : ObjOk P w H h a o) (k : ∀ b u, (b = a ∨ H b = some (.own a)) → h.get? b = some u → h'.get? b = some u)
    (ho : ∀ b, H b = some (.own a) → H' b = some (.own a)) (ht : ∀ b xs, H b = some (.tup xs) → H' b = some (.tup xs)) : ObjOk P w H' h' a o := by
  induction o with
  | lst xs => obtain ⟨z, its, n, r, e⟩ := x; exact ⟨z, its, n, r, k _ _ (.inl rfl) e⟩
  | tup xs => obtain ⟨z, its, r, ob, e, c⟩ := x; exact ⟨z, its, r, ob, k _ _ (.inl rfl) e, c⟩
  | dK kvs => obtain ⟨z, y, vs, r, ob, es, ep, e, c⟩ := x; exact ⟨z, y, vs, r, ob, es, ep, k _ _ (.inl rfl) e, c⟩
  | dT kvs =>
    obtain ⟨z, y, xs, r, ob, es, ep, e, c⟩ := x
    exact ⟨z, y, xs, Paired.mapP r fun p q z => ⟨z.1, ht _ _ z.2.1, z.2.2⟩, ob, es, ep, k _ _ (.inl rfl) e, c⟩
  | set S n => obtain ⟨ob, es, ep, t, e, c⟩ := x; exact ⟨ob, es, ep, t, k _ _ (.inl rfl) e, c⟩
  | ins C dx fs =>
    obtain ⟨d, z, ne, e, mA, ⟨od, es, ep, e2, c⟩, r⟩ := x
    exact ⟨ho _ d, z, ne, k _ _ (.inl rfl) e, mA, ⟨od, es, ep, k _ _ (.inr d) e2, c⟩, r⟩
  | own y => obtain ⟨ob, e⟩ := x; exact ⟨ob, k _ _ (.inl rfl) e⟩
  | xd fs => obtain ⟨mA, ⟨od, es, ep, e, c⟩, r⟩ := x; exact ⟨mA, ⟨od, es, ep, k _ _ (.inl rfl) e, c⟩, r⟩
  | rng lo hi => obtain ⟨t, u, v, e⟩ := x; exact ⟨t, u, v, k _ _ (.inl rfl) e⟩
  | frz ob u ih => obtain ⟨e, q⟩ := x; exact ⟨k _ _ (.inl rfl) e, ih q⟩
  | tbl ps =>
    have e : h.get? a = some { cls := .none, data := .fields ps } := x
    show h'.get? a = some { cls := .none, data := .fields ps }
    exact k a _ (.inl rfl) e
  | met f y =>
    have e : h.get? a = some (PySem.W.methodObj (.ref f) (.ref y)) := x
    show h'.get? a = some (PySem.W.methodObj (.ref f) (.ref y))
    exact k a _ (.inl rfl) e
  | ext φ => obtain ⟨p, ⟨o, e⟩, st⟩ := x; exact ⟨st _ _ p fun o q => k _ _ (.inl rfl) q, ⟨o, k _ _ (.inl rfl) e⟩, st⟩
theorem HOk.lt (x : HOk P w H h) (e : H a = some o) : a < h.objs.size := (x a o e).lt
theorem HOk.fresh (x : HOk P w H h) (e : h.objs.size ≤ a) : H a = none := by
  cases q : H a with
  | none => rfl
  | some u => exact absurd (Nat.lt_of_lt_of_le (x.lt q) e) (Nat.lt_irrefl _)
theorem HOk.kept (x : HOk P w H h) (k : ∀ b u, h.get? b = some u → h'.get? b = some u) : HOk P w H h' := fun a o e =>
  (x a o e).stay (fun b u _ q => k b u q) (fun _ q => q) fun _ _ q => q
theorem HOk.laid (x : HOk P w H h) (k : ∀ b u, h.get? b = some u → h'.get? b = some u) (hp : h.objs.size ≤ a) (new : ObjOk P w (upd H a o) h' a o) : HOk P w (upd H a o) h' := fun b u e => by
  have hn := x.fresh hp
  by_cases hb : b = a
  · subst hb; rw [upd_same] at e; cases e; exact new
  · rw [upd_ne hb] at e
    exact (x b u e).stay (fun c v _ q => k c v q) (fun c q => by rw [upd_ne (ne_of_none q hn)]; exact q) fun c xs q => by rw [upd_ne (ne_of_none q hn)]; exact q
end
def Rd (H : Hp) (a : Addr) (u : HO) : Prop := H a = some u ∨ ∃ o, H a = some (.frz o u)
theorem Rd.of {H : Hp} {a : Addr} {u : HO} (h : H a = some u) : Rd H a u := .inl h
theorem Rd.ok {P : Program} {w : World} {H : Hp} {h : Heap} {a : Addr} {u : HO} (r : Rd H a u) (x : HOk P w H h) : ObjOk P w H h a u := by
  rcases r with r | ⟨o, r⟩
  · exact x a u r
  · obtain ⟨_, q⟩ := x a _ r
    exact q
def Mut : Option HO → Prop
  | some (.lst _) => True
  | some (.dK _) => True
  | some (.dT _) => True
  | some (.set _ _) => True
  | some (.ins _ _ _) => True
  | some (.ext _) => True
  | _ => False
section
variable {P : Program} {w : World} {H : Hp} {h h' : Heap} {x e : Addr} {o' : HO}
theorem HOk.write (ok : HOk P w H h) (mu : Mut (H x)) (he : e = x ∨ H e = some (.own x)) (k : ∀ b u, b ≠ e → h.get? b = some u → h'.get? b = some u) (heo : ∃ u, h'.get? e = some u)
    (new : ObjOk P w (upd H x o') h' x o') : HOk P w (upd H x o') h' := fun b u q => by
  have nown : ∀ c y, H c = some (.own y) → c ≠ x := fun c y r z => by subst z; rw [r] at mu; exact mu
  have ntup : ∀ c xs, H c = some (.tup xs) → c ≠ x := fun c xs r z => by subst z; rw [r] at mu; exact mu
  by_cases hb : b = x
  · subst hb; rw [upd_same] at q; cases q; exact new
  · rw [upd_ne hb] at q
    by_cases hbe : b = e
    · have q' : H b = some (.own x) := by
        rcases he with z | z
        · exact absurd (hbe.trans z) hb
        · rw [hbe]; exact z
      rw [q] at q'; cases q'
      obtain ⟨v, hv⟩ := heo
      exact ⟨v, by rw [hbe]; exact hv⟩
    · refine (ok b u q).stay (fun c v hc r => k c v ?_ r) (fun c r => by rw [upd_ne (nown c b r)]; exact r) fun c xs r => by rw [upd_ne (ntup c xs r)]; exact r
      rcases hc with rfl | hc
      · exact hbe
      · rintro rfl
        rcases he with z | z
        · exact nown c b hc z
        · rw [hc] at z; cases z; exact hb rfl
end
structure Un (fs ex : List Addr) (H H' : Hp) (h h' : Heap) : Prop where
  keep : ∀ b o, h.get? b = some o → H b = none → b ∉ fs → b ∉ ex → h'.get? b = some o
  slot : ∀ b o, h.get? b = some o → H b = none → b ∈ fs → b ∉ ex → ∃ sl, h'.get? b = some { o with slots := sl }
  free : ∀ b o, h.get? b = some o → H b = none → b ∉ ex → H' b = none
  there : ∀ b o, h.get? b = some o → b ∉ ex → ∃ o', h'.get? b = some o'
  tups : ∀ b xs, H b = some (.tup xs) → H' b = some (.tup xs)
  frzs : ∀ b o u, H b = some (.frz o u) → H' b = some (.frz o u)
  tbls : ∀ b ps, H b = some (.tbl ps) → ∃ more, H' b = some (.tbl (ps ++ more))
section
variable {fs fs' ex ex' : List Addr} {H H1 H2 : Hp} {h h1 h2 h' : Heap} {a x e : Addr} {o : HO}
theorem Un.any (u : Un fs ex H H1 h h1) {b : Addr} {ob : Obj} (q : h.get? b = some ob) (n : H b = none) (hx : b ∉ ex) : ∃ sl, h1.get? b = some { ob with slots := sl } := by
  by_cases hb : b ∈ fs
  · exact u.slot b ob q n hb hx
  · exact ⟨ob.slots, u.keep b ob q n hb hx⟩
theorem Un.trans (a : Un fs ex H H1 h h1) (b : Un fs ex H1 H2 h1 h2) : Un fs ex H H2 h h2 where
  keep := fun c ob q n hc hx => b.keep c ob (a.keep c ob q n hc hx) (a.free c ob q n hx) hc hx
  slot := fun c ob q n hc hx => by
    obtain ⟨sl, e1⟩ := a.slot c ob q n hc hx
    obtain ⟨sl', e2⟩ := b.slot c _ e1 (a.free c ob q n hx) hc hx
    exact ⟨sl', e2⟩
  free := fun c ob q n hx => by
    obtain ⟨o', e1⟩ := a.there c ob q hx
    exact b.free c o' e1 (a.free c ob q n hx) hx
  there := fun c ob q hx => by
    obtain ⟨o', e1⟩ := a.there c ob q hx
    exact b.there c o' e1 hx
  tups := fun c xs q => b.tups c xs (a.tups c xs q)
  frzs := fun c ob xs q => b.frzs c ob xs (a.frzs c ob xs q)
  tbls := fun c ps q => by
    obtain ⟨m1, e1⟩ := a.tbls c ps q
    obtain ⟨m2, e2⟩ := b.tbls c _ e1
    exact ⟨m1 ++ m2, by rw [e2, Array.append_assoc]⟩
theorem Un.kept (k : ∀ b u, h.get? b = some u → h'.get? b = some u) : Un fs ex H H h h' :=
  ⟨fun b ob q _ _ _ => k b ob q, fun b ob q _ _ _ => ⟨ob.slots, k b ob q⟩, fun _ _ _ n _ => n, fun b ob q _ => ⟨ob, k b ob q⟩, fun _ _ q => q, fun _ _ _ q => q, fun _ ps q => ⟨#[], by rw [q]; simp⟩⟩
theorem Un.refl : Un fs ex H H h h := Un.kept fun _ _ q => q
theorem Un.laid (k : ∀ b u, h.get? b = some u → h'.get? b = some u) (hp : h.objs.size ≤ a) (hn : H a = none) : Un fs ex H (upd H a o) h h' where
  keep := fun b u q _ _ _ => k b u q
  slot := fun b u q _ _ _ => ⟨u.slots, k b u q⟩
  free := fun b u q n _ => by rw [upd_ne (Nat.ne_of_lt (Nat.lt_of_lt_of_le (Heap.lt_size q) hp))]; exact n
  there := fun b u q _ => ⟨u, k b u q⟩
  tups := fun b xs q => by rw [upd_ne (ne_of_none q hn)]; exact q
  frzs := fun b u xs q => by rw [upd_ne (ne_of_none q hn)]; exact q
  tbls := fun b ps q => ⟨#[], by rw [upd_ne (ne_of_none q hn), q]; simp⟩
theorem Un.write (mu : Mut (H x)) (he : e = x ∨ H e = some (.own x)) (k : ∀ b u, b ≠ e → h.get? b = some u → h'.get? b = some u) (heo : ∃ u, h'.get? e = some u) : Un fs ex H (upd H x o) h h' := by
  have hx : ∀ b, H b = none → b ≠ x := fun b n z => by subst z; rw [n] at mu; exact mu
  have hb : ∀ b, H b = none → b ≠ e := fun b n z => by
    subst z
    rcases he with r | r
    · exact hx b n r
    · rw [n] at r; cases r
  have hm : ∀ b u, H b = some u → ¬ Mut (some u) → b ≠ x := fun b u q nm z => by subst z; rw [q] at mu; exact nm mu
  refine ⟨fun b u q n _ _ => k b u (hb b n) q, fun b u q n _ _ => ⟨u.slots, k b u (hb b n) q⟩, fun b u q n _ => by rw [upd_ne (hx b n)]; exact n, fun b u q _ => ?_,
    fun b xs q => by rw [upd_ne (hm b _ q fun z => z)]; exact q, fun b u xs q => by rw [upd_ne (hm b _ q fun z => z)]; exact q, fun b ps q => ⟨#[], by rw [upd_ne (hm b _ q fun z => z), q]; simp⟩⟩
  by_cases hbe : b = e
  · subst hbe; exact heo
  · exact ⟨u, k b u hbe q⟩
theorem Un.mono (u : Un fs ex H H1 h h1) (hs : ∀ b ∈ fs, b ∈ fs') (hx : ∀ b ∈ ex, b ∈ ex') : Un fs' ex' H H1 h h1 :=
  ⟨fun b ob q n hb he => u.keep b ob q n (fun z => hb (hs b z)) fun z => he (hx b z), fun _ _ q n _ he => u.any q n fun z => he (hx _ z), fun b ob q n he => u.free b ob q n fun z => he (hx b z), fun b ob q he => u.there b ob q fun z => he (hx b z), u.tups, u.frzs, u.tbls⟩
end
def trk (h : Heap) (H : Hp) : List Addr := (List.range h.objs.size).filter fun a => (H a).isSome
def hidT (h : Heap) (H : Hp) : Heap := PySem.W.hideAll h (trk h H)
theorem hidT_size (h : Heap) (H : Hp) : (hidT h H).objs.size = h.objs.size := PySem.W.hideAll_size _ _
theorem hidT_get {h : Heap} {H : Hp} {b : Addr} {o : Obj} (e : h.get? b = some o) (n : H b = none) : (hidT h H).get? b = some o :=
  PySem.W.hideAll_get _ e fun hm => by
    have q : (H b).isSome = true := (List.mem_filter.mp hm).2
    rw [n] at q; simp at q
theorem of_hidT {h : Heap} {H : Hp} {b : Addr} {o : Obj} (e : (hidT h H).get? b = some o) : h.get? b = some o ∧ H b = none := by
  have e' : h.get? b = some o := PySem.W.of_hideAll (trk h H) e
  refine ⟨e', ?_⟩
  cases q : H b with
  | none => rfl
  | some x =>
    have hm : b ∈ trk h H := List.mem_filter.mpr ⟨List.mem_range.mpr (Heap.lt_size e'), by simp [q]⟩
    have z : (hidT h H).get? b = none := PySem.W.hideAll_none (trk h H) hm
    rw [z] at e; cases e
def allNews (g h : Heap) (L : Addr) : List (Addr × Obj) := (List.range h.objs.size).filterMap fun a => if a = L ∨ (g.get? a).isSome = true then none else (h.get? a).map fun o => (a, o)
def rest (g h : Heap) (L d : Addr) : List (Addr × Obj) := (allNews g h L).filter fun p => decide (p.1 ≠ d)
end L2
namespace L2
open PySem PySem.Spec PyProof.Rows
structure Mod (K : PySem.W.Frag) (mg : Str → Option Value) (base : Heap) : Prop where
  kin : K.In base
  glob : base.Ns mainGlobals mg
  blt : ∃ mb, base.Ns builtinsNs mb ∧ ∀ x : Str, x ≠ "__name__" → mb x = bootBuiltins x
  nolimit : base.NoLimit
structure Cx where
  prog : Program
  w : World
  K : PySem.W.Frag
  mg : Str → Option Value
  base : Heap
  A : Around
  N : List Str
  s₀ : Shared
  H₀ : Hp
  env : Env
  outer : List Env
  stack : List Env
  ex : List Addr
  fn : Str → Bool
  calm : Bool
  pn : List (Addr × Obj)
  xe : Value → Shared → Prop
def frs (l : List Env) : List Addr := l.filterMap (·.frame)
abbrev Cx.fs (X : Cx) : List Addr := frs X.outer
def Vis (sc : Scope) (x : Str) : Prop := sc.names.lookup x = some .local ∨ sc.names.lookup x = some .cell ∨ sc.names.lookup x = some .free
def Loc (sc : Scope) (x : Str) : Prop := sc.names.lookup x = some .local ∨ sc.names.lookup x = some .cell
def Look (env : Env) (h : Heap) (m : Str → Option Value) (x : Str) (u : Value) : Prop :=
  (env.kindOf x = some .local ∧ m x = some u) ∨ ((env.kindOf x = some .cell ∨ env.kindOf x = some .free) ∧ ∃ c, env.cells.lookup x = some c ∧ h.IsCell c (some u))
structure Cx.Ok (X : Cx) : Prop where
  mod : Mod X.K X.mg X.base
  kind : X.env.scope.kind = .function
  glob : X.env.globals = mainGlobals
  blt : X.env.builtins = builtinsNs
  above : X.s₀.heap.objs.size ≤ X.env.locals
  inj : ∀ x y c, X.env.cells.lookup x = some c → X.env.cells.lookup y = some c → x = y
  has : ∀ x, (X.env.kindOf x = some .cell ∨ X.env.kindOf x = some .free) → ∃ c, X.env.cells.lookup x = some c
  cab : ∀ x c, X.fn x = true → X.env.cells.lookup x = some c → X.s₀.heap.objs.size ≤ c
  hd : X.calm = true → X.A.handled = none
  frames : X.A.frames = some X.stack
  stk : X.stack = X.outer ∨ (X.stack = X.env :: X.outer ∧ X.env.frame = some X.env.locals)
  exf : ∀ b ∈ X.ex, b ≠ X.env.locals ∧ ∀ x c, X.env.cells.lookup x = some c → c ≠ b
  bs : ∀ b o, X.base.get? b = some o → X.s₀.heap.get? b = some o ∧ X.H₀ b = none
  bsz : X.base.objs.size ≤ X.s₀.heap.objs.size
  noex : ∀ b o, X.base.get? b = some o → b ∉ X.ex
  exfs : ∀ b ∈ X.ex, b ∉ X.fs
  funs : X.s₀.heap.FunFrames X.base X.outer
  frf : ∀ b ∈ X.fs, X.H₀ b = none
structure Inv (X : Cx) (pins : List (Addr × Obj)) (σ : List (Option V)) (H : Hp) (s : Shared) : Prop where
  ok : X.Ok
  os : s.os = X.s₀.os
  bare : AllBare s.gens
  base : Un X.fs X.ex X.H₀ H X.s₀.heap s.heap
  loc : ∃ m, s.heap.Ns X.env.locals m ∧ ∀ (i : Nat) (x : Str) (v : V), X.N[i]? = some x → σ[i]? = some (some v) → Vis X.env.scope x → ∃ u, RelV v u ∧ Look X.env s.heap m x u
  cell : ∀ x c, X.env.cells.lookup x = some c → ∃ v, s.heap.IsCell c v
  free : H X.env.locals = none
  freeC : ∀ x c, X.env.cells.lookup x = some c → H c = none
  pin : ∀ p ∈ X.pn ++ pins, s.heap.get? p.1 = some p.2 ∧ H p.1 = none ∧ p.1 ≠ X.env.locals ∧ p.1 ∉ X.fs ∧ ∀ v, p.2.data ≠ .cell v
  hok : HOk X.prog X.w H s.heap
  len : σ.length = X.N.length
section
variable {X : Cx} {pins : List (Addr × Obj)} {σ : List (Option V)} {H H' : Hp} {s : Shared} {h' : Heap}
theorem Cx.Ok.nofr (ok : X.Ok) {b : Addr} {o : Obj} (e : X.base.get? b = some o) : b ∉ X.fs := fun hb => by
  have := (ok.funs.mem hb).1
  rw [e] at this; cases this
theorem Inv.bs (I : Inv X pins σ H s) : ∀ b o, X.base.get? b = some o → s.heap.get? b = some o ∧ H b = none := fun b o e =>
  ⟨I.base.keep b o (I.ok.bs b o e).1 (I.ok.bs b o e).2 (I.ok.nofr e) (I.ok.noex b o e), I.base.free b o (I.ok.bs b o e).1 (I.ok.bs b o e).2 (I.ok.noex b o e)⟩
theorem Inv.bk (I : Inv X pins σ H s) : ∀ b o, X.base.get? b = some o → s.heap.get? b = some o := fun b o e => (I.bs b o e).1
theorem Inv.mod (I : Inv X pins σ H s) : Mod X.K X.mg X.base := I.ok.mod
theorem Inv.kIn (I : Inv X pins σ H s) : X.K.In s.heap := I.ok.mod.kin.keeps I.bk
theorem Inv.nolimit (I : Inv X pins σ H s) : s.heap.NoLimit := I.ok.mod.nolimit.keeps I.bk
theorem Inv.fr (I : Inv X pins σ H s) : ∃ m, Fr X.base X.env.locals s.heap m :=
  let ⟨m, hn, _⟩ := I.loc
  ⟨m, hn, I.bk, Nat.le_trans I.ok.bsz I.ok.above⟩
theorem Inv.lt (I : Inv X pins σ H s) : X.env.locals < s.heap.objs.size := let ⟨_, hn, _⟩ := I.loc; hn.lt
theorem Inv.sz (I : Inv X pins σ H s) : X.s₀.heap.objs.size ≤ s.heap.objs.size := Nat.le_trans I.ok.above (Nat.le_of_lt I.lt)
theorem Inv.nofs (I : Inv X pins σ H s) {a : Addr} (h : s.heap.objs.size ≤ a) : a ∉ X.fs := fun hb => by
  obtain ⟨_, o, ho, _⟩ := I.ok.funs.mem hb
  exact absurd (Nat.lt_of_lt_of_le (Heap.lt_size ho) (Nat.le_trans I.sz h)) (Nat.lt_irrefl _)
theorem Inv.cne (I : Inv X pins σ H s) : ∀ x c, X.env.cells.lookup x = some c → c ≠ X.env.locals := fun x c e z => by
  obtain ⟨v, o, ho, hd⟩ := I.cell x c e
  obtain ⟨m, ⟨o', es, ep, ho', hd', _⟩, _⟩ := I.loc
  rw [z, ho'] at ho; cases ho; rw [hd'] at hd; cases hd
theorem Inv.funs (I : Inv X pins σ H s) : s.heap.FunFrames X.base X.outer := by
  have all : ∀ (l : List Env), (∀ b ∈ frs l, b ∈ X.fs) → X.s₀.heap.FunFrames X.base l → s.heap.FunFrames X.base l := by
    intro l
    induction l with
    | nil => intro _ _; trivial
    | cons env r ih =>
      intro hs hl
      obtain ⟨hk, ⟨L, o, hf, hn, ho, hd⟩, hr⟩ := hl
      have hL : L ∈ X.fs := hs L (by unfold frs; rw [List.filterMap_cons, hf]; exact List.mem_cons_self)
      obtain ⟨sl, e⟩ := I.base.slot L o ho (I.ok.frf L hL) hL fun z => I.ok.exfs L z hL
      exact ⟨hk, ⟨L, _, hf, hn, e, hd⟩, ih (fun b hb => hs b (by unfold frs; rw [List.filterMap_cons, hf]; exact List.mem_cons_of_mem _ hb)) hr⟩
  exact all X.outer (fun _ hb => hb) I.ok.funs
theorem Inv.stack (I : Inv X pins σ H s) : s.heap.FunFrames X.base X.stack := by
  rcases I.ok.stk with e | ⟨e, hf⟩
  · rw [e]; exact I.funs
  · rw [e]
    obtain ⟨m, hn, _⟩ := I.loc
    refine .cons (by rw [I.ok.kind]; decide) hf hn ?_ I.funs
    exact Heap.get?_none_of_le (Nat.le_trans I.ok.bsz I.ok.above)
theorem Inv.stkSub (I : Inv X pins σ H s) : ∀ b ∈ frs X.stack, b ∈ X.env.locals :: X.fs := fun b hb => by
  rcases I.ok.stk with e | ⟨e, hf⟩
  · rw [e] at hb; exact List.mem_cons_of_mem _ hb
  · rw [e] at hb
    unfold frs at hb
    rw [List.filterMap_cons, hf] at hb
    exact hb
theorem Inv.stkFree (I : Inv X pins σ H s) : ∀ b ∈ frs X.stack, H b = none := fun b hb => by
  rcases List.mem_cons.mp (I.stkSub b hb) with e | hb
  · rw [e]; exact I.free
  · obtain ⟨_, o, ho, _⟩ := I.ok.funs.mem hb
    exact I.base.free b o ho (I.ok.frf b hb) fun z => I.ok.exfs b z hb
theorem Inv.step {g' : Array GenState} {t' : Nat} {d' : Drawn} {ch : List Addr} (I : Inv X pins σ H s)
    (hch : ∀ b ∈ ch, (b ∈ X.ex ∨ X.s₀.heap.objs.size ≤ b) ∧ b ≠ X.env.locals ∧ (∀ x c, X.env.cells.lookup x = some c → c ≠ b) ∧ ∀ p ∈ X.pn ++ pins, p.1 ≠ b)
    (keep : ∀ b o, b ≠ X.env.locals → b ∉ X.fs → b ∉ ch → s.heap.get? b = some o → H b = none → h'.get? b = some o)
    (slot : ∀ b o, b ≠ X.env.locals → b ∈ X.fs → b ∉ ch → s.heap.get? b = some o → H b = none → ∃ sl, h'.get? b = some { o with slots := sl }) (free : ∀ b o, b ∉ ch → s.heap.get? b = some o → H b = none → H' b = none)
    (there : ∀ b o, b ∉ ch → s.heap.get? b = some o → ∃ o', h'.get? b = some o')
    (tups : ∀ b xs, H b = some (.tup xs) → H' b = some (.tup xs)) (frzs : ∀ b o u, H b = some (.frz o u) → H' b = some (.frz o u)) (tbls : ∀ b ps, H b = some (.tbl ps) → ∃ more, H' b = some (.tbl (ps ++ more)))
    (ns : ∀ m, s.heap.Ns X.env.locals m → h'.Ns X.env.locals m) (hok : HOk X.prog X.w H' h') (hg : AllBare g') :
    Inv X pins σ H' { s with heap := h', gens := g', drawn := d', toks := t' } := by
  have neL : ∀ b o, X.s₀.heap.get? b = some o → b ≠ X.env.locals := fun b o e => Nat.ne_of_lt (Nat.lt_of_lt_of_le (Heap.lt_size e) I.ok.above)
  have neC : ∀ b o, X.s₀.heap.get? b = some o → b ∉ X.ex → b ∉ ch := fun b o e hx hb => by
    rcases (hch b hb).1 with z | z
    · exact hx z
    · exact absurd (Nat.lt_of_lt_of_le (Heap.lt_size e) z) (Nat.lt_irrefl _)
  have cellK : ∀ x c, X.env.cells.lookup x = some c → ∀ v, s.heap.IsCell c v → h'.IsCell c v := fun x c e v ⟨o, ho, hd⟩ => by
    have nch : c ∉ ch := fun z => (hch c z).2.2.1 x c e rfl
    by_cases hc : c ∈ X.fs
    · obtain ⟨sl, q⟩ := slot c o (I.cne x c e) hc nch ho (I.freeC x c e)
      exact ⟨_, q, hd⟩
    · exact ⟨o, keep c o (I.cne x c e) hc nch ho (I.freeC x c e), hd⟩
  refine ⟨I.ok, I.os, hg, ⟨fun b o e n hb hx => ?_, fun b o e n hb hx => ?_, fun b o e n hx => ?_, fun b o e hx => ?_, fun b xs e => tups b xs (I.base.tups b xs e), fun b o xs e => frzs b o xs (I.base.frzs b o xs e), fun b ps e => ?_⟩, ?_, fun x c e => ?_, ?_, fun x c e => ?_, fun p hp => ?_, hok, I.len⟩
  · exact keep b o (neL b o e) hb (neC b o e hx) (I.base.keep b o e n hb hx) (I.base.free b o e n hx)
  · obtain ⟨sl, e1⟩ := I.base.slot b o e n hb hx
    obtain ⟨sl', e2⟩ := slot b _ (neL b o e) hb (neC b o e hx) e1 (I.base.free b o e n hx)
    exact ⟨sl', e2⟩
  · obtain ⟨o', e1⟩ := I.base.there b o e hx
    exact free b o' (neC b o e hx) e1 (I.base.free b o e n hx)
  · obtain ⟨o', e1⟩ := I.base.there b o e hx
    exact there b o' (neC b o e hx) e1
  · obtain ⟨m1, e1⟩ := I.base.tbls b ps e
    obtain ⟨m2, e2⟩ := tbls b _ e1
    exact ⟨m1 ++ m2, by rw [e2, Array.append_assoc]⟩
  · obtain ⟨m, hn, hl⟩ := I.loc
    refine ⟨m, ns m hn, fun i x v e1 e2 e3 => ?_⟩
    obtain ⟨u, r, l⟩ := hl i x v e1 e2 e3
    refine ⟨u, r, ?_⟩
    rcases l with l | ⟨k, c, e, z⟩
    · exact .inl l
    · exact .inr ⟨k, c, e, cellK x c e _ z⟩
  · obtain ⟨v, z⟩ := I.cell x c e
    exact ⟨v, cellK x c e v z⟩
  · obtain ⟨m, ⟨o, _, _, ho, _⟩, _⟩ := I.loc
    exact free _ o (fun z => (hch _ z).2.1 rfl) ho I.free
  · obtain ⟨v, o, ho, hd⟩ := I.cell x c e
    exact free c o (fun z => (hch c z).2.2.1 x c e rfl) ho (I.freeC x c e)
  · obtain ⟨e, n, ne, nf, d⟩ := I.pin p hp
    have nch : p.1 ∉ ch := fun z => (hch p.1 z).2.2.2 p hp rfl
    exact ⟨keep p.1 p.2 ne nf nch e n, free p.1 p.2 nch e n, ne, nf, d⟩
theorem Inv.un {t' : Nat} (I : Inv X pins σ H s) (u : Un X.fs [] H H' s.heap h') (hok : HOk X.prog X.w H' h') : Inv X pins σ H' { s with heap := h', toks := t' } := by
  obtain ⟨m, ⟨o, es, ep, ho, r⟩, _⟩ := id I.loc
  obtain ⟨sl, hL⟩ := u.any ho I.free (by simp)
  exact I.step (g' := s.gens) (d' := s.drawn) (ch := []) (fun _ z => nomatch z) (fun b o _ hb _ e n => u.keep b o e n hb (by simp)) (fun b o _ hb _ e n => u.slot b o e n hb (by simp)) (fun b o _ e n => u.free b o e n (by simp)) (fun b o _ e => u.there b o e (by simp)) u.tups u.frzs u.tbls (fun m' hm => by
    obtain ⟨o', es', ep', ho', r'⟩ := hm
    rw [ho] at ho'; cases ho'
    exact ⟨_, es', ep', hL, r'⟩) hok I.bare
theorem Inv.call {g' : Array GenState} {t' : Nat} {d' : Drawn} {ch : List Addr} (I : Inv X pins σ H s) (u : Un (frs X.stack) ch H H' s.heap h') (hok : HOk X.prog X.w H' h') (hg : AllBare g')
    (hch : ∀ b ∈ ch, (b ∈ X.ex ∨ X.s₀.heap.objs.size ≤ b) ∧ b ≠ X.env.locals ∧ (∀ x c, X.env.cells.lookup x = some c → c ≠ b) ∧ ∀ p ∈ X.pn ++ pins, p.1 ≠ b) :
    Inv X pins σ H' { s with heap := h', gens := g', drawn := d', toks := t' } := by
  obtain ⟨m, ⟨o, es, ep, ho, r⟩, _⟩ := id I.loc
  obtain ⟨sl, hL⟩ := u.any ho I.free fun z => (hch _ z).2.1 rfl
  exact I.step (ch := ch) hch (fun b o hL hb hc e n => u.keep b o e n (fun z => (List.mem_cons.mp (I.stkSub b z)).elim hL hb) hc) (fun b o _ _ hc e n => u.any e n hc) (fun b o hc e n => u.free b o e n hc) (fun b o hc e => u.there b o e hc) u.tups u.frzs u.tbls (fun m' hm => by
    obtain ⟨o', es', ep', ho', r'⟩ := hm
    rw [ho] at ho'; cases ho'
    exact ⟨_, es', ep', hL, r'⟩) hok hg
theorem Inv.turned {t' : Nat} {it : Addr} (I : Inv X pins σ H s) (k : ∀ b o, b ≠ it → s.heap.get? b = some o → h'.get? b = some o) (hn : H it = none) (hL : it ≠ X.env.locals)
    (h1 : it ∈ X.ex ∨ X.s₀.heap.objs.size ≤ it) (h2 : ∀ x c, X.env.cells.lookup x = some c → c ≠ it) (h3 : ∀ p ∈ X.pn ++ pins, p.1 ≠ it) : Inv X pins σ H { s with heap := h', toks := t' } := by
  have nit : ∀ b u, H b = some u → b ≠ it := fun b u e z => by rw [z, hn] at e; cases e
  refine I.step (g' := s.gens) (d' := s.drawn) (ch := [it]) (fun b hb => ?_) (fun b o _ _ hc e _ => k b o (fun z => hc (by simp [z])) e) (fun b o _ _ hc e _ => ⟨o.slots, k b o (fun z => hc (by simp [z])) e⟩) (fun _ _ _ _ n => n)
    (fun b o hc e => ⟨o, k b o (fun z => hc (by simp [z])) e⟩) (fun _ _ e => e) (fun _ _ _ e => e) (fun b ps e => ⟨#[], by rw [e]; simp⟩) (fun m hm => ?_) (fun b u e => ?_) I.bare
  · have e : b = it := by simpa using hb
    subst e
    exact ⟨h1, hL, h2, h3⟩
  · obtain ⟨o, es, ep, ho, r⟩ := hm
    exact ⟨o, es, ep, k _ o (Ne.symm hL) ho, r⟩
  · refine (I.hok b u e).stay (fun c v hc q => k c v ?_ q) (fun _ q => q) fun _ _ q => q
    rcases hc with z | z
    · rw [z]; exact nit b u e
    · exact nit c _ z
theorem Inv.tok (I : Inv X pins σ H s) (t : Nat) : Inv X pins σ H { s with toks := t } := I.un (h' := s.heap) (t' := t) Un.refl I.hok
theorem Inv.kept {t' : Nat} (I : Inv X pins σ H s) (k : ∀ b u, s.heap.get? b = some u → h'.get? b = some u) : Inv X pins σ H { s with heap := h', toks := t' } := I.un (Un.kept k) (I.hok.kept k)
theorem Inv.laid {a : Addr} {o : HO} {t' : Nat} (I : Inv X pins σ H s) (k : ∀ b u, s.heap.get? b = some u → h'.get? b = some u) (hp : s.heap.objs.size ≤ a) (new : ObjOk X.prog X.w (upd H a o) h' a o) :
    Inv X pins σ (upd H a o) { s with heap := h', toks := t' } := I.un (Un.laid k hp (I.hok.fresh hp)) (I.hok.laid k hp new)
theorem Inv.write {x e : Addr} {o : HO} {t' : Nat} (I : Inv X pins σ H s) (mu : Mut (H x)) (he : e = x ∨ H e = some (.own x)) (k : ∀ b u, b ≠ e → s.heap.get? b = some u → h'.get? b = some u) (heo : ∃ u, h'.get? e = some u)
    (new : ObjOk X.prog X.w (upd H x o) h' x o) : Inv X pins σ (upd H x o) { s with heap := h', toks := t' } := I.un (Un.write mu he k heo) (I.hok.write mu he k heo new)
theorem Inv.weak {σ' : List (Option V)} (I : Inv X pins σ H s) (hl : σ'.length = σ.length) (w : ∀ (i : Nat) v, σ'[i]? = some (some v) → σ[i]? = some (some v)) : Inv X pins σ' H s :=
  ⟨I.ok, I.os, I.bare, I.base, let ⟨m, hn, hl'⟩ := I.loc; ⟨m, hn, fun i x v e1 e2 e3 => hl' i x v e1 (w i v e2) e3⟩, I.cell, I.free, I.freeC, I.pin, I.hok, hl.trans I.len⟩
theorem Inv.pins_of {pins' : List (Addr × Obj)} (I : Inv X pins σ H s) (h : ∀ p ∈ pins', s.heap.get? p.1 = some p.2 ∧ H p.1 = none ∧ p.1 ≠ X.env.locals ∧ p.1 ∉ X.fs ∧ ∀ v, p.2.data ≠ .cell v) : Inv X pins' σ H s :=
  ⟨I.ok, I.os, I.bare, I.base, I.loc, I.cell, I.free, I.freeC, fun p hp => (List.mem_append.mp hp).elim (fun z => I.pin p (List.mem_append_left _ z)) (h p), I.hok, I.len⟩
theorem nodup_ix {N : List Str} (hN : N.Nodup) {i j : Nat} {x : Str} (a : N[i]? = some x) (b : N[j]? = some x) : i = j := by
  obtain ⟨h1, e1⟩ := List.getElem?_eq_some_iff.mp a
  obtain ⟨h2, e2⟩ := List.getElem?_eq_some_iff.mp b
  exact (List.getElem_inj hN).mp (e1.trans e2.symm)
theorem store_ok2 {M : Model} {A : Around} {E : Value → Shared → Prop} {i : Nat} {x : Str} {v : V} {u : Value} {Q : Unit → Shared → Prop} (I : Inv X pins σ H s) (hN : X.N.Nodup) (hi : X.N[i]? = some x) (hx : Loc X.env.scope x) (r : RelV v u)
    (h : ∀ s', Inv X pins (σ.set i (some v)) H s' → (∃ a, Heap.SameBut a s.heap s'.heap ∧ (a = X.env.locals ∨ X.env.cells.lookup x = some a)) → Q () s') (hf : X.fn x = true ∨ X.env.scope.names.lookup x = some .local := by first | exact .inl rfl | exact .inr rfl | assumption) : wpAny M A (storeName X.env x u) Q E s := by
  obtain ⟨m, hn, hl⟩ := id I.loc
  have hcls : (X.env.scope.kind == .class || (X.env.scope.kind == .module && X.env.locals != X.env.globals)) = false := by rw [I.ok.kind]; rfl
  have hiσ : i < σ.length := by rw [I.len]; exact (List.getElem?_eq_some_iff.mp hi).1
  have cne := I.cne
  have tracked : ∀ {a : Addr} {h' : Heap}, (∃ o, s.heap.get? a = some o ∧ H a = none) → Heap.SameBut a s.heap h' → HOk X.prog X.w H h' := fun {a h'} ha hs b ob e => by
    obtain ⟨_, _, hfree⟩ := ha
    refine (I.hok b ob e).stay (fun c w' hc q => (hs.2 c ?_).trans q) (fun _ q => q) fun _ _ q => q
    rintro rfl
    rcases hc with rfl | hc
    · rw [hfree] at e; cases e
    · rw [hfree] at hc; cases hc
  rcases hx with hk | hk
  · refine wpAny_storeName_local hk hn (fun h' hn' hs => ?_) hcls
    obtain ⟨oL, _, _, hoL, _⟩ := id hn
    refine h _ ⟨I.ok, I.os, I.bare, ⟨fun b o e n hb hx => ?_, fun b o e n hb hx => ?_, I.base.free, fun b o e hx => ?_, I.base.tups, I.base.frzs, I.base.tbls⟩, ⟨_, hn', fun j y v' e1 e2 e3 => ?_⟩, fun y c e => ?_, I.free, I.freeC, fun p hp => ?_, tracked ⟨oL, hoL, I.free⟩ hs, by simpa using I.len⟩ ⟨_, hs, .inl rfl⟩
    · exact (hs.2 b (Nat.ne_of_lt (Nat.lt_of_lt_of_le (Heap.lt_size e) I.ok.above))).trans (I.base.keep b o e n hb hx)
    · obtain ⟨sl, e1⟩ := I.base.slot b o e n hb hx
      exact ⟨sl, (hs.2 b (Nat.ne_of_lt (Nat.lt_of_lt_of_le (Heap.lt_size e) I.ok.above))).trans e1⟩
    · obtain ⟨o', e1⟩ := I.base.there b o e hx
      exact ⟨o', (hs.2 b (Nat.ne_of_lt (Nat.lt_of_lt_of_le (Heap.lt_size e) I.ok.above))).trans e1⟩
    · by_cases hj : j = i
      · subst hj
        rw [hi] at e1; cases e1
        rw [List.getElem?_set_self hiσ] at e2
        cases e2
        exact ⟨u, r, .inl ⟨hk, by simp⟩⟩
      · rw [List.getElem?_set_ne (Ne.symm hj)] at e2
        obtain ⟨u', r', q⟩ := hl j y v' e1 e2 e3
        refine ⟨u', r', ?_⟩
        rcases q with ⟨k, e⟩ | ⟨k, c, e, z⟩
        · refine .inl ⟨k, ?_⟩
          have : y ≠ x := fun e => hj (nodup_ix hN e1 (e ▸ hi))
          simp [this, e]
        · exact .inr ⟨k, c, e, z.sameBut hs (cne y c e)⟩
    · obtain ⟨w', z⟩ := I.cell y c e
      exact ⟨w', z.sameBut hs (cne y c e)⟩
    · obtain ⟨e, n, ne, nf, d⟩ := I.pin p hp
      exact ⟨(hs.2 p.1 ne).trans e, n, ne, nf, d⟩
  · have hfn : X.fn x = true := by
      rcases hf with z | z
      · exact z
      · rw [z] at hk; cases hk
    obtain ⟨c, hc⟩ := I.ok.has x (.inl hk)
    obtain ⟨w', z⟩ := I.cell x c hc
    refine wpAny_storeName_cell I.ok.kind hk hc z (fun h' hc' hs => ?_)
    obtain ⟨oc, hoc, hocd⟩ := id z
    refine h { s with heap := h' } ⟨I.ok, I.os, I.bare, ⟨fun b o e n hb hx => ?_, fun b o e n hb hx => ?_, I.base.free, fun b o e hx => ?_, I.base.tups, I.base.frzs, I.base.tbls⟩, ⟨m, hn.sameBut hs (Ne.symm (cne x c hc)), fun j y v' e1 e2 e3 => ?_⟩, fun y c' e => ?_, I.free, I.freeC, fun p hp => ?_, tracked ⟨oc, hoc, I.freeC x c hc⟩ hs, by simpa using I.len⟩ ⟨c, hs, .inr hc⟩
    · exact (hs.2 b (Nat.ne_of_lt (Nat.lt_of_lt_of_le (Heap.lt_size e) (I.ok.cab x c hfn hc)))).trans (I.base.keep b o e n hb hx)
    · obtain ⟨sl, e1⟩ := I.base.slot b o e n hb hx
      exact ⟨sl, (hs.2 b (Nat.ne_of_lt (Nat.lt_of_lt_of_le (Heap.lt_size e) (I.ok.cab x c hfn hc)))).trans e1⟩
    · obtain ⟨o', e1⟩ := I.base.there b o e hx
      exact ⟨o', (hs.2 b (Nat.ne_of_lt (Nat.lt_of_lt_of_le (Heap.lt_size e) (I.ok.cab x c hfn hc)))).trans e1⟩
    · by_cases hj : j = i
      · subst hj
        rw [hi] at e1; cases e1
        rw [List.getElem?_set_self hiσ] at e2
        cases e2
        exact ⟨u, r, .inr ⟨.inl hk, c, hc, hc'⟩⟩
      · rw [List.getElem?_set_ne (Ne.symm hj)] at e2
        obtain ⟨u', r', q⟩ := hl j y v' e1 e2 e3
        refine ⟨u', r', ?_⟩
        rcases q with q | ⟨k, c', e, z'⟩
        · exact .inl q
        · refine .inr ⟨k, c', e, z'.sameBut hs ?_⟩
          rintro rfl
          exact hj (nodup_ix hN e1 (I.ok.inj _ _ _ e hc ▸ hi))
    · by_cases hcc : c' = c
      · subst hcc; exact ⟨_, hc'⟩
      · obtain ⟨w2, z2⟩ := I.cell y c' e
        exact ⟨w2, z2.sameBut hs hcc⟩
    · obtain ⟨e, n, ne, nf, d⟩ := I.pin p hp
      refine ⟨(hs.2 p.1 ?_).trans e, n, ne, nf, d⟩
      intro q
      rw [q, hoc] at e
      have q' : oc = p.2 := Option.some.inj e
      exact d w' (by rw [← q']; exact hocd)
theorem store_ok {M : Model} {A : Around} {E : Value → Shared → Prop} {i : Nat} {x : Str} {v : V} {u : Value} {Q : Unit → Shared → Prop} (I : Inv X pins σ H s) (hN : X.N.Nodup) (hi : X.N[i]? = some x) (hx : Loc X.env.scope x) (r : RelV v u)
    (h : ∀ s', Inv X pins (σ.set i (some v)) H s' → Q () s') (hf : X.fn x = true ∨ X.env.scope.names.lookup x = some .local := by first | exact .inl rfl | exact .inr rfl | assumption) : wpAny M A (storeName X.env x u) Q E s :=
  store_ok2 I hN hi hx r (fun s' I' _ => h s' I') hf
theorem Inv.call' {s' : Shared} {ch : List Addr} (I : Inv X pins σ H s) (ho : s'.os = s.os) (u : Un (frs X.stack) ch H H' s.heap s'.heap) (hok : HOk X.prog X.w H' s'.heap) (hg : AllBare s'.gens)
    (hch : ∀ b ∈ ch, (b ∈ X.ex ∨ X.s₀.heap.objs.size ≤ b) ∧ b ≠ X.env.locals ∧ (∀ x c, X.env.cells.lookup x = some c → c ≠ b) ∧ ∀ p ∈ X.pn ++ pins, p.1 ≠ b) : Inv X pins σ H' s' := by
  obtain ⟨h', g', d', t', o'⟩ := s'
  have e : o' = s.os := ho
  subst e
  exact I.call (g' := g') (t' := t') (d' := d') u hok hg hch
end
abbrev XK := Value → Option Addr → Hp → Prop
abbrev St := List (Option V)
abbrev VK := V → Hp → Prop
abbrev TE := St → Hp → VK → Prop
abbrev TT := St → Hp → (Bool → Hp → Prop) → Prop
abbrev TA := St → Hp → (List V → Hp → Prop) → Prop
structure Ends where
  nx : St → Hp → Prop
  rt : VK
  bk : St → Hp → Prop := fun _ _ => False
  ct : St → Hp → Prop := fun _ _ => False
abbrev TS := Ends → St → Hp → Prop
def EP (X : Cx) (pins : List (Addr × Obj)) (σ : St) (Q : VK) (u : Value) (s' : Shared) : Prop := ∃ v H', Inv X pins σ H' s' ∧ RelV v u ∧ Q v H'
def TP (X : Cx) (pins : List (Addr × Obj)) (σ : St) (Q : Bool → Hp → Prop) (b : Bool) (s' : Shared) : Prop := ∃ H', Inv X pins σ H' s' ∧ Q b H'
def AP (X : Cx) (pins : List (Addr × Obj)) (σ : St) (Q : List V → Hp → Prop) (us : List Value) (s' : Shared) : Prop := ∃ vs H', Inv X pins σ H' s' ∧ Vals vs us ∧ Q vs H'
def SP (X : Cx) (pins : List (Addr × Obj)) (D : Ends) (f : Flow) (s' : Shared) : Prop :=
  match f with
  | .next => ∃ σ' H', Inv X pins σ' H' s' ∧ D.nx σ' H'
  | .brk => ∃ σ' H', Inv X pins σ' H' s' ∧ D.bk σ' H'
  | .cont => ∃ σ' H', Inv X pins σ' H' s' ∧ D.ct σ' H'
  | .ret u => ∃ v σ' H', Inv X pins σ' H' s' ∧ RelV v u ∧ D.rt v H'
def PE (X : Cx) (e : Expr) (t : TE) : Prop :=
  ∀ (pins : List (Addr × Obj)) (s : Shared) (σ : St) (H : Hp) (Q : VK), Inv X pins σ H s → t σ H Q → wpAny (model X.prog X.w) X.A (eval e X.env) (EP X pins σ Q) X.xe s
def PT (X : Cx) (e : Expr) (t : TT) : Prop :=
  ∀ (pins : List (Addr × Obj)) (s : Shared) (σ : St) (H : Hp) (Q : Bool → Hp → Prop), Inv X pins σ H s → t σ H Q → wpAny (model X.prog X.w) X.A (isTrue e X.env (eval e X.env)) (TP X pins σ Q) X.xe s
def PW (X : Cx) (e : Expr) (t : TT) : Prop :=
  ∀ (whole : Sem Value) (pins : List (Addr × Obj)) (s : Shared) (σ : St) (H : Hp) (Q : Bool → Hp → Prop), Inv X pins σ H s → t σ H Q → wpAny (model X.prog X.w) X.A (isTrue e X.env whole) (TP X pins σ Q) X.xe s
theorem PW.pt {X : Cx} {e : Expr} {t : TT} (h : PW X e t) : PT X e t := h _
def PA (X : Cx) (es : List Expr) (t : TA) : Prop :=
  ∀ (pos : Pos) (pins : List (Addr × Obj)) (s : Shared) (σ : St) (H : Hp) (Q : List V → Hp → Prop), Inv X pins σ H s → t σ H Q → wpAny (model X.prog X.w) X.A (spliced (backTo pos (starEach es X.env))) (AP X pins σ Q) X.xe s
def PS (X : Cx) (st : Stmt) (t : TS) : Prop :=
  ∀ (pins : List (Addr × Obj)) (s : Shared) (σ : St) (H : Hp) (D : Ends), Inv X pins σ H s → t D σ H → wpAny (model X.prog X.w) X.A (exec st X.env) (SP X pins D) X.xe s
def PSs (X : Cx) (st : List Stmt) (t : TS) : Prop :=
  ∀ (pins : List (Addr × Obj)) (s : Shared) (σ : St) (H : Hp) (D : Ends), Inv X pins σ H s → t D σ H → wpAny (model X.prog X.w) X.A (execs st X.env) (SP X pins D) X.xe s
theorem thn {α : Type} {t : Sem α} {Q Q' : α → Shared → Prop} {M : Model} {A : Around} {E : Value → Shared → Prop} {s : Shared} (h : wpAny M A t Q E s) (hQ : ∀ a s, Q a s → Q' a s) : wpAny M A t Q' E s := wpAny_mono h hQ fun _ _ x => x
end L2
namespace L2
open PySem PySem.Spec PyProof.Rows
section
variable {X : Cx}
theorem bin {a b : Expr} {ta tb : TE} (ha : PE X a ta) (hb : PE X b tb) {pins : List (Addr × Obj)} {s : Shared} {σ : St} {H : Hp} {R : V → V → Hp → Prop} (I : Inv X pins σ H s) (h : ta σ H fun x H1 => tb σ H1 fun y H2 => R x y H2)
    {α : Type} {Q : α → Shared → Prop} {f : Value → Value → Sem α}
    (hf : ∀ v u s2 x y H2, Inv X pins σ H2 s2 → RelV x v → RelV y u → R x y H2 → wpAny (model X.prog X.w) X.A (f v u) Q X.xe s2) :
    wpAny (model X.prog X.w) X.A (eval a X.env) (fun v s₁ => wpAny (model X.prog X.w) X.A (eval b X.env) (fun u s₂ => wpAny (model X.prog X.w) X.A (f v u) Q X.xe s₂) X.xe s₁) X.xe s := by
  refine thn (ha pins s σ H _ I h) fun v s1 ⟨x, H1, I1, r1, q1⟩ => ?_
  refine thn (hb pins s1 σ H1 _ I1 q1) fun u s2 ⟨y, H2, I2, r2, q2⟩ => ?_
  exact hf v u s2 x y H2 I2 r1 r2 q2
def tVar (i : Nat) : TE := fun σ H Q => ∃ v, σ[i]? = some (some v) ∧ Q v H
def tC (v : V) : TE := fun _ H Q => Q v H
theorem pe_var {i : Nat} {x : Str} {pos : Pos} (hN : X.N[i]? = some x) (hv : Vis X.env.scope x) (hd : (x == ("__debug__" : Str)) = false := by decide) (hcd : (x == ("__classdict__" : Str)) = false := by decide) : PE X (.Name x pos) (tVar i) := by
  intro pins s σ H Q I h
  obtain ⟨v, e, h⟩ := h
  obtain ⟨m, hn, hl⟩ := I.loc
  obtain ⟨u, r, l⟩ := hl i x v hN e hv
  have fin : EP X pins σ Q u s := ⟨v, H, I, r, h⟩
  rcases l with ⟨hk, hm⟩ | ⟨hk, c, hc, hcell⟩
  · exact wpAny_Name (wpAny_loadName_local I.ok.kind hk hn hm fin) hd
  · rcases hk with hk | hk
    · exact wpAny_Name (wpAny_loadName_cell I.ok.kind hk hc hcell fin) hd
    · exact wpAny_Name (wpAny_loadName_free I.ok.kind hk hc hcell fin hcd) hd
theorem pe_int {i j pos} : PE X (.Constant (.int i) j pos) (tC (.int i)) := fun _ _ _ H _ I h => wpAny_Constant_int ⟨.int i, H, I.tok _, ⟨_, rfl⟩, h⟩
theorem pe_bl {b j pos} : PE X (.Constant (.bool b) j pos) (tC (.bl b)) := fun _ _ _ H _ I h => Constant_bool ⟨.bl b, H, I, rfl, h⟩
theorem pe_non {j pos} : PE X (.Constant .none j pos) (tC .non) := fun _ _ _ H _ I h => Constant_none ⟨.non, H, I, rfl, h⟩
theorem pe_str {x j pos} : PE X (.Constant (.str x) j pos) (tC (.str x)) := fun _ _ _ H _ I h => Calls.Constant_str ⟨.str x, H, I.tok _, ⟨_, rfl⟩, h⟩
def Gl (X : Cx) (x : Str) : Prop := X.env.kindOf x = some .globalImplicit
theorem ld_glob {E : Value → Shared → Prop} {pins : List (Addr × Obj)} {s : Shared} {σ : St} {H : Hp} {x : Str} {u : Value} {pos : Pos} {Q : Value → Shared → Prop} (I : Inv X pins σ H s) (hg : Gl X x) (hm : X.mg x = some u) (h : Q u s)
    (hd : (x == ("__debug__" : Str)) = false := by decide) : wpAny (model X.prog X.w) X.A (eval (.Name x pos) X.env) Q E s :=
  Calls.Name_function_global I.ok.kind hg (Calls.loadGlobal_global (by rw [I.ok.glob]; exact I.mod.glob.keeps I.bk) hm h) hd
theorem ld_blt {E : Value → Shared → Prop} {pins : List (Addr × Obj)} {s : Shared} {σ : St} {H : Hp} {x : Str} {u : Value} {pos : Pos} {Q : Value → Shared → Prop} (I : Inv X pins σ H s) (hg : Gl X x) (hm : X.mg x = none) (hv : bootBuiltins x = some u) (h : Q u s)
    (hn : x ≠ "__name__" := by decide) (hd : (x == ("__debug__" : Str)) = false := by decide) : wpAny (model X.prog X.w) X.A (eval (.Name x pos) X.env) Q E s := by
  obtain ⟨mb, h1, h2⟩ := I.mod.blt
  exact Calls.Name_function_global I.ok.kind hg (Calls.loadGlobal_builtin (by rw [I.ok.glob]; exact I.mod.glob.keeps I.bk) hm (by rw [I.ok.blt]; exact h1.keeps I.bk) ((h2 x hn).trans hv) h) hd
theorem pe_glob {x : Str} {v : V} {u : Value} {pos : Pos} (hg : Gl X x) (hm : X.mg x = some u) (r : RelV v u) (hd : (x == ("__debug__" : Str)) = false := by decide) : PE X (.Name x pos) (tC v) :=
  fun _ _ _ H _ I h => ld_glob I hg hm ⟨v, H, I, r, h⟩ hd
theorem pe_bltn {x : Str} {v : V} {u : Value} {pos : Pos} (hg : Gl X x) (hm : X.mg x = none) (hv : bootBuiltins x = some u) (r : RelV v u) (hn : x ≠ "__name__" := by decide) (hd : (x == ("__debug__" : Str)) = false := by decide) : PE X (.Name x pos) (tC v) :=
  fun _ _ _ H _ I h => ld_blt I hg hm hv ⟨v, H, I, r, h⟩ hn hd
variable {a b : Expr} {ta tb : TE} {pos : Pos}
def PC (X : Cx) (op : CmpOp) (a b : Expr) (t : TE) : Prop :=
  ∀ (pins : List (Addr × Obj)) (s : Shared) (σ : St) (H : Hp) (Q : VK), Inv X pins σ H s → t σ H Q →
    wpAny (model X.prog X.w) X.A (eval a X.env) (fun v s₁ => wpAny (model X.prog X.w) X.A (eval b X.env) (fun u s₂ => wpAny (model X.prog X.w) X.A (compareOp op v u) (EP X pins σ Q) X.xe s₂) X.xe s₁) X.xe s
theorem nobehind (b : Expr) {op : CmpOp} (h : op ≠ .In) (h2 : op ≠ .NotIn) : behindInMarks op b = false := by
  have e1 : (op == CmpOp.In) = false := by cases op <;> first | rfl | exact absurd rfl h
  have e2 : (op == CmpOp.NotIn) = false := by cases op <;> first | rfl | exact absurd rfl h2
  cases b <;> simp [behindInMarks, e1, e2]
def tIsN (ta : TE) : TE := fun σ H Q => ta σ H fun x H1 => Q (.bl (decide (x = .non))) H1
def tNotN (ta : TE) : TE := fun σ H Q => ta σ H fun x H1 => Q (.bl (!decide (x = .non))) H1
theorem RelV.none_iff {x : V} {v : Value} (r : RelV x v) : (v == Value.none) = decide (x = .non) := by
  cases x with
  | non => cases r; rfl
  | bl _ => cases r; rfl
  | int _ => obtain ⟨t, rfl⟩ := r; rfl
  | str _ => obtain ⟨t, rfl⟩ := r; rfl
  | byt _ => obtain ⟨t, rfl⟩ := r; rfl
  | flt _ => obtain ⟨t, rfl⟩ := r; rfl
  | ref _ => cases r; rfl
  | ty _ => cases r; rfl
theorem pc_isN {j pos'} (ha : PE X a ta) : PC X .Is a (.Constant .none j pos') (tIsN ta) := by
  intro pins s σ H Q I h
  refine thn (ha pins s σ H _ I h) fun v s1 ⟨x, H1, I1, r1, q1⟩ => ?_
  exact Constant_none (is_none_gen ⟨.bl _, H1, I1, by rw [r1.none_iff]; rfl, q1⟩)
theorem pc_notN {j pos'} (ha : PE X a ta) : PC X .IsNot a (.Constant .none j pos') (tNotN ta) := by
  intro pins s σ H Q I h
  refine thn (ha pins s σ H _ I h) fun v s1 ⟨x, H1, I1, r1, q1⟩ => ?_
  exact Constant_none (isnot_none_gen ⟨.bl _, H1, I1, by rw [r1.none_iff]; rfl, q1⟩)
def tB (t : TE) : TT := fun σ H Q => t σ H fun x H1 => ∃ c, x = .bl c ∧ Q c H1
theorem pt_cmp {op : CmpOp} {t : TE} (h : PC X op a b t) (h1 : behindInMarks op b = false := by first | exact nobehind _ (by decide) (by decide) | rfl) : PT X (.Compare a [op] [b] pos) (tB t) := by
  intro pins s σ H Q I hw
  refine wpAny_isTrue_Compare1 (thn (h pins s σ H _ I hw) fun v s1 h1 => thn h1 fun u s2 h2 => thn h2 fun c s3 ⟨x, H1, I1, r1, q1⟩ => ?_) h1
  obtain ⟨d, rfl, q⟩ := q1
  cases r1
  exact wpAny_truthy_bool ⟨H1, I1, q⟩
theorem pt_val {e : Expr} {t : TE} (h : PE X e t) (he : ∀ whole, isTrue e X.env whole = (do let v ← whole; standAt e.pos; holding [v] (truthy v)) := by intro _; rfl) : PT X e (tB t) := by
  intro pins s σ H Q I hw
  refine isTrue_plain (thn (h pins s σ H _ I hw) fun v s1 ⟨x, H1, I1, r1, q1⟩ => ?_) (he _)
  obtain ⟨d, rfl, q⟩ := q1
  cases r1
  exact wpAny_truthy_bool ⟨H1, I1, q⟩
variable {tA tB' : TT} {rest : List Expr}
def tAnd (t u : TT) : TT := fun σ H Q => t σ H fun c H1 => if c = true then u σ H1 Q else Q false H1
def tOr (t u : TT) : TT := fun σ H Q => t σ H fun c H1 => if c = true then Q true H1 else u σ H1 Q
def tNot (t : TT) : TT := fun σ H Q => t σ H fun c H1 => Q (!c) H1
theorem pw_and1 (ha : PT X a tA) : PW X (.BoolOp .And [a] pos) tA := by
  intro wh pins s σ H Q I h
  refine isTrue_and (thn (ha pins s σ H Q I h) fun c s1 e => ?_)
  cases c with
  | true => exact isTrue_and_nil e
  | false => exact e
theorem pw_or1 (ha : PT X a tA) : PW X (.BoolOp .Or [a] pos) tA := by
  intro wh pins s σ H Q I h
  refine isTrue_or (thn (ha pins s σ H Q I h) fun c s1 e => ?_)
  cases c with
  | false => exact isTrue_or_nil e
  | true => exact e
theorem pw_and (ha : PT X a tA) (hb : PW X (.BoolOp .And (b :: rest) pos) tB') : PW X (.BoolOp .And (a :: b :: rest) pos) (tAnd tA tB') := by
  intro wh pins s σ H Q I h
  refine isTrue_and (thn (ha pins s σ H _ I h) fun c s1 ⟨H1, I1, q1⟩ => ?_)
  cases c with
  | true => exact hb wh pins s1 σ H1 Q I1 q1
  | false => exact ⟨H1, I1, q1⟩
theorem pw_or (ha : PT X a tA) (hb : PW X (.BoolOp .Or (b :: rest) pos) tB') : PW X (.BoolOp .Or (a :: b :: rest) pos) (tOr tA tB') := by
  intro wh pins s σ H Q I h
  refine isTrue_or (thn (ha pins s σ H _ I h) fun c s1 ⟨H1, I1, q1⟩ => ?_)
  cases c with
  | true => exact ⟨H1, I1, q1⟩
  | false => exact hb wh pins s1 σ H1 Q I1 q1
theorem pt_not (ha : PT X a tA) : PT X (.UnaryOp .Not a pos) (tNot tA) := by
  intro pins s σ H Q I h
  exact isTrue_not (ha pins s σ H (fun c H1 => Q (!c) H1) I h)
def tAndV (ta tb : TE) : TE := fun σ H Q => ta σ H fun x H1 => ∃ c, x = .bl c ∧ if c = true then tb σ H1 Q else Q (.bl false) H1
def tOrV (ta tb : TE) : TE := fun σ H Q => ta σ H fun x H1 => ∃ c, x = .bl c ∧ if c = true then Q (.bl true) H1 else tb σ H1 Q
theorem pe_one {op} {t : TE} (h : PE X a t) : PE X (.BoolOp op [a] pos) t := fun pins s σ H Q I hw => BoolOp_one (h pins s σ H Q I hw)
theorem pe_and (ha : PE X a ta) (hb : PE X (.BoolOp .And (b :: rest) pos) tb) : PE X (.BoolOp .And (a :: b :: rest) pos) (tAndV ta tb) := by
  intro pins s σ H Q I h
  refine BoolOp_and (thn (ha pins s σ H _ I h) fun v s1 ⟨x, H1, I1, r1, q1⟩ => ?_)
  obtain ⟨c, rfl, q1⟩ := q1
  cases r1
  refine wpAny_truthy_bool ?_
  cases c with
  | true => exact hb pins s1 σ H1 Q I1 q1
  | false => exact ⟨.bl false, H1, I1, rfl, q1⟩
theorem pe_or (ha : PE X a ta) (hb : PE X (.BoolOp .Or (b :: rest) pos) tb) : PE X (.BoolOp .Or (a :: b :: rest) pos) (tOrV ta tb) := by
  intro pins s σ H Q I h
  refine BoolOp_or (thn (ha pins s σ H _ I h) fun v s1 ⟨x, H1, I1, r1, q1⟩ => ?_)
  obtain ⟨c, rfl, q1⟩ := q1
  cases r1
  refine wpAny_truthy_bool ?_
  cases c with
  | false => exact hb pins s1 σ H1 Q I1 q1
  | true => exact ⟨.bl true, H1, I1, rfl, q1⟩
def tIf (t : TT) (ta tb : TE) : TE := fun σ H Q => t σ H fun c H1 => if c = true then ta σ H1 Q else tb σ H1 Q
theorem pe_ifExp {c : Expr} (hc : PT X c tA) (ha : PE X a ta) (hb : PE X b tb) : PE X (.IfExp c a b pos) (tIf tA ta tb) := by
  intro pins s σ H Q I h
  refine wpAny_IfExp (thn (hc pins s σ H _ I h) fun d s1 ⟨H1, I1, q1⟩ => ?_)
  cases d with
  | true => exact ha pins s1 σ H1 Q I1 q1
  | false => exact hb pins s1 σ H1 Q I1 q1
end
end L2
namespace L2
open PySem PySem.Spec PyProof.Rows
def SqL (K : PySem.W.Frag) (H : Hp) (a : Addr) (xs : List V) : Prop :=
  Rd H a (.lst xs) ∨
    ∃ (o : Obj) (its : Array Value) (n : Nat), K.lookup a = some o ∧ o.cls = .type "list" ∧ o.dict = none ∧ o.data = .seq its n ∧ its.size ≤ sizeLine ∧ Vals xs its.toList
def SqT (K : PySem.W.Frag) (H : Hp) (a : Addr) (xs : List V) : Prop :=
  Rd H a (.tup xs) ∨
    ∃ (o : Obj) (its : Array Value) (n : Nat), K.lookup a = some o ∧ o.cls = .type "tuple" ∧ o.data = .seq its n ∧ its.size ≤ sizeLine ∧ Vals xs its.toList
def absV : Value → Option V
  | .none => some .non
  | .bool b => some (.bl b)
  | .int i _ => some (.int i)
  | .str x _ => some (.str x)
  | .bytes b _ => some (.byt b)
  | .float b _ => some (.flt b)
  | .ref a => some (.ref a)
  | .type n => some (.ty n)
  | _ => none
theorem RelV.abs {x : V} {u : Value} (r : RelV x u) : absV u = some x := by
  cases x with
  | non => cases r; rfl
  | bl _ => cases r; rfl
  | int _ => obtain ⟨t, rfl⟩ := r; rfl
  | str _ => obtain ⟨t, rfl⟩ := r; rfl
  | byt _ => obtain ⟨t, rfl⟩ := r; rfl
  | flt _ => obtain ⟨t, rfl⟩ := r; rfl
  | ref _ => cases r; rfl
  | ty _ => cases r; rfl
theorem RelV.inj {x y : V} {u : Value} (r : RelV x u) (q : RelV y u) : x = y := Option.some.inj (r.abs.symm.trans q.abs)
theorem Vals.inj : ∀ {xs ys : List V} {us : List Value}, Vals xs us → Vals ys us → xs = ys
  | _, _, _, .nil, .nil => rfl
  | _, _, _, .cons r t, .cons r' t' => by rw [r.inj r', Vals.inj t t']
section
variable {X : Cx} {pins : List (Addr × Obj)} {σ : St} {H : Hp} {s : Shared} {a : Addr} {xs ys : List V}
theorem SqL.of {K : PySem.W.Frag} (h : H a = some (.lst xs)) : SqL K H a xs := .inl (.inl h)
theorem SqT.of {K : PySem.W.Frag} (h : H a = some (.tup xs)) : SqT K H a xs := .inl (.inl h)
theorem Inv.list (I : Inv X pins σ H s) (h : SqL X.K H a xs) : ∃ its : List Value, Vals xs its ∧ PlainL s.heap a its.toArray ∧ xs.length ≤ sizeLine := by
  rcases h with h | ⟨o, its, n, hk, hc, hd, hs, hz, r⟩
  · obtain ⟨z, its, n, r, e⟩ := h.ok I.hok
    exact ⟨its, r, ⟨_, n, e, rfl, rfl, rfl⟩, z⟩
  · refine ⟨its.toList, r, ⟨o, n, I.kIn a o hk, hc, hd, by simpa using hs⟩, ?_⟩
    have e := r.length
    simp only [Array.length_toList] at e
    omega
theorem Inv.tuple (I : Inv X pins σ H s) (h : SqT X.K H a xs) : ∃ its : List Value, Vals xs its ∧ IsTup s.heap a its.toArray ∧ xs.length ≤ sizeLine := by
  rcases h with h | ⟨o, its, n, hk, hc, hs, hz, r⟩
  · obtain ⟨z, its, r, p⟩ := h.ok I.hok
    exact ⟨its, r, p, z⟩
  · refine ⟨its.toList, r, ⟨o, I.kIn a o hk, hc, n, by simpa using hs⟩, ?_⟩
    have e := r.length
    simp only [Array.length_toList] at e
    omega
theorem Inv.list_inj (I : Inv X pins σ H s) (h : SqL X.K H a xs) (h' : SqL X.K H a ys) : xs = ys := by
  obtain ⟨its, r, ⟨o, n, e, _, _, d⟩, _⟩ := I.list h
  obtain ⟨its', r', ⟨o', n', e', _, _, d'⟩, _⟩ := I.list h'
  rw [e] at e'; cases e'
  rw [d] at d'
  injection d' with d1 _
  have : its = its' := by simpa using congrArg Array.toList d1
  subst this
  exact r.inj r'
theorem Inv.tuple_inj (I : Inv X pins σ H s) (h : SqT X.K H a xs) (h' : SqT X.K H a ys) : xs = ys := by
  obtain ⟨its, r, ⟨o, e, _, n, d⟩, _⟩ := I.tuple h
  obtain ⟨its', r', ⟨o', e', _, n', d'⟩, _⟩ := I.tuple h'
  rw [e] at e'; cases e'
  rw [d] at d'
  injection d' with d1 _
  have : its = its' := by simpa using congrArg Array.toList d1
  subst this
  exact r.inj r'
end
abbrev Cx.wish (X : Cx) (E : Value → Shared → Prop) : Cx := { X with xe := E }
abbrev Cx.nox (X : Cx) : Cx := X.wish fun _ _ => False
theorem Cx.Ok.wish {X : Cx} (ok : X.Ok) (E : Value → Shared → Prop) : (X.wish E).Ok :=
  ⟨ok.mod, ok.kind, ok.glob, ok.blt, ok.above, ok.inj, ok.has, ok.cab, ok.hd, ok.frames, ok.stk, ok.exf, ok.bs, ok.bsz, ok.noex, ok.exfs, ok.funs, ok.frf⟩
theorem Cx.Ok.unwish {X : Cx} {E : Value → Shared → Prop} (ok : (X.wish E).Ok) : X.Ok :=
  ⟨ok.mod, ok.kind, ok.glob, ok.blt, ok.above, ok.inj, ok.has, ok.cab, ok.hd, ok.frames, ok.stk, ok.exf, ok.bs, ok.bsz, ok.noex, ok.exfs, ok.funs, ok.frf⟩
section
variable {X : Cx} {pins : List (Addr × Obj)} {σ : St} {H : Hp} {s : Shared} {E : Value → Shared → Prop}
theorem Inv.wish (I : Inv X pins σ H s) (E : Value → Shared → Prop) : Inv (X.wish E) pins σ H s := ⟨I.ok.wish E, I.os, I.bare, I.base, I.loc, I.cell, I.free, I.freeC, I.pin, I.hok, I.len⟩
theorem Inv.unwish (I : Inv (X.wish E) pins σ H s) : Inv X pins σ H s := ⟨I.ok.unwish, I.os, I.bare, I.base, I.loc, I.cell, I.free, I.freeC, I.pin, I.hok, I.len⟩
theorem SP.unwish {D : Ends} {f : Flow} {s' : Shared} (h : SP (X.wish E) pins D f s') : SP X pins D f s' := by
  cases f with
  | next => obtain ⟨σ', H', I, q⟩ := h; exact ⟨σ', H', I.unwish, q⟩
  | brk => obtain ⟨σ', H', I, q⟩ := h; exact ⟨σ', H', I.unwish, q⟩
  | cont => obtain ⟨σ', H', I, q⟩ := h; exact ⟨σ', H', I.unwish, q⟩
  | ret u => obtain ⟨v, σ', H', I, r, q⟩ := h; exact ⟨v, σ', H', I.unwish, r, q⟩
theorem PE.nox {e : Expr} {t : TE} (h : PE X.nox e t) : PE X e t := fun pins s σ H Q I hw =>
  wpAny_mono (h pins s σ H Q (I.wish _) hw) (fun _ _ ⟨v, H', I', r, q⟩ => ⟨v, H', I'.unwish, r, q⟩) fun _ _ z => False.elim z
theorem PT.nox {e : Expr} {t : TT} (h : PT X.nox e t) : PT X e t := fun pins s σ H Q I hw =>
  wpAny_mono (h pins s σ H Q (I.wish _) hw) (fun _ _ ⟨H', I', q⟩ => ⟨H', I'.unwish, q⟩) fun _ _ z => False.elim z
theorem PSs.nox {st : List Stmt} {t : TS} (h : PSs X.nox st t) : PSs X st t := fun pins s σ H D I hw =>
  wpAny_mono (h pins s σ H D (I.wish _) hw) (fun _ _ q => q.unwish) fun _ _ z => False.elim z
end
section
variable {X : Cx} {st : Stmt} {rest : List Stmt} {t u : TS} {e : Expr} {te : TE} {pos : Pos}
def tNext : TS := fun D σ H => D.nx σ H
def tSeq (t u : TS) : TS := fun D σ H => t { D with nx := u D } σ H
theorem pss_nil : PSs X [] tNext := fun _ _ σ H _ I h => wpAny_execs_nil ⟨σ, H, I, h⟩
theorem pss_cons (h1 : PS X st t) (h2 : PSs X rest u) : PSs X (st :: rest) (tSeq t u) := by
  intro pins s σ H D I h
  refine wpAny_execs_cons (thn (h1 pins s σ H { D with nx := u D } I h) fun f s1 q => ?_)
  cases f with
  | next =>
    obtain ⟨σ', H', I', q⟩ := q
    exact h2 pins s1 σ' H' D I' q
  | ret v => exact q
  | brk => exact q
  | cont => exact q
theorem pss_one (h1 : PS X st t) : PSs X [st] t := by
  intro pins s σ H D I h
  refine wpAny_execs_cons (thn (h1 pins s σ H D I h) fun f s1 q => ?_)
  cases f with
  | next => exact wpAny_execs_nil q
  | ret v => exact q
  | brk => exact q
  | cont => exact q
theorem Inv.quiet {pins : List (Addr × Obj)} {σ : St} {H : Hp} {s : Shared} (I : Inv X pins σ H s) : interactive X.env = false := by simp [interactive, I.ok.kind]
def tDrop (te : TE) : TS := fun D σ H => te σ H fun _ H1 => D.nx σ H1
theorem ps_expr (he : PE X e te) (hs : swapsWith e none pos.line X.env = pure false := by rfl) : PS X (.Expr e pos) (tDrop te) := by
  intro pins s σ H D I h
  exact wpAny_Expr_any (thn (he pins s σ H _ I h) fun v s1 ⟨x, H1, I1, r1, q1⟩ => ⟨σ, H1, I1, q1⟩) I.quiet hs
def tRet (te : TE) : TS := fun D σ H => te σ H D.rt
theorem ps_ret (he : PE X e te) : PS X (.Return (some e) pos) (tRet te) := by
  intro pins s σ H D I h
  exact wpAny_Return_some (thn (he pins s σ H _ I h) fun v s1 ⟨x, H1, I1, r1, q1⟩ => ⟨x, σ, H1, I1, r1, q1⟩)
def tIfS (c : TT) (t u : TS) : TS := fun D σ H => c σ H fun b H1 => if b = true then t D σ H1 else u D σ H1
theorem ps_if {c : Expr} {a b : List Stmt} {tc : TT} (hc : PT X c tc) (ha : PSs X a t) (hb : PSs X b u) : PS X (.If c a b pos) (tIfS tc t u) := by
  intro pins s σ H D I h
  refine wpAny_If (thn (hc pins s σ H _ I h) fun d s1 ⟨H1, I1, q1⟩ => ?_)
  cases d with
  | true => exact ha pins s1 σ H1 D I1 q1
  | false => exact hb pins s1 σ H1 D I1 q1
def tNever : TS := fun _ _ _ => False
theorem ps_never : PS X st tNever := fun _ _ _ _ _ _ h => h.elim
end
abbrev TG := V → St → Hp → (St → Hp → Prop) → Prop
abbrev TGs := List V → St → Hp → (St → Hp → Prop) → Prop
def PG (X : Cx) (target : Expr) (t : TG) : Prop :=
  ∀ (pins : List (Addr × Obj)) (s : Shared) (σ : St) (H : Hp) (v : V) (u : Value) (Q : St → Hp → Prop), Inv X pins σ H s → RelV v u → t v σ H Q →
    wpAny (model X.prog X.w) X.A (assign target X.env u) (fun _ s' => ∃ σ' H', Inv X pins σ' H' s' ∧ Q σ' H') X.xe s
def PGs (X : Cx) (ts : List Expr) (t : TGs) : Prop :=
  ∀ (pins : List (Addr × Obj)) (s : Shared) (σ : St) (H : Hp) (vs : List V) (us : List Value) (Q : St → Hp → Prop), Inv X pins σ H s → Vals vs us → t vs σ H Q →
    wpAny (model X.prog X.w) X.A (assignInOrder ((assignEach ts X.env).map (·.2)) us) (fun _ s' => ∃ σ' H', Inv X pins σ' H' s' ∧ Q σ' H') X.xe s
abbrev TSet := V → V → V → Hp → (Hp → Prop) → Prop
def PSet (X : Cx) (t : TSet) : Prop :=
  ∀ (pins : List (Addr × Obj)) (s : Shared) (σ : St) (H : Hp) (o i v : V) (ov iv u : Value) (Q : Hp → Prop), Inv X pins σ H s → RelV o ov → RelV i iv → RelV v u → t o i v H Q →
    wpAny (model X.prog X.w) X.A (setItem ov iv u) (fun _ s' => ∃ H', Inv X pins σ H' s' ∧ Q H') X.xe s
section
variable {X : Cx} {pos : Pos}
def gName (i : Nat) : TG := fun v σ H Q => Q (σ.set i (some v)) H
theorem pg_name {i : Nat} {x : Str} (hN : X.N.Nodup) (hi : X.N[i]? = some x) (hx : Loc X.env.scope x) (hf : X.fn x = true ∨ X.env.scope.names.lookup x = some .local := by first | exact .inl rfl | exact .inr rfl | assumption) : PG X (.Name x pos) (gName i) := by
  intro pins s σ H v u Q I r h
  exact wpAny_assign_Name (store_ok I hN hi hx r (fun s' I' => ⟨_, H, I', h⟩) hf)
def gNil : TGs := fun vs σ H Q => vs = [] ∧ Q σ H
def gCons (t : TG) (u : TGs) : TGs := fun vs σ H Q => ∃ v r, vs = v :: r ∧ t v σ H fun σ' H' => u r σ' H' Q
theorem pgs_nil : PGs X [] gNil := by
  intro pins s σ H vs us Q I r h
  obtain ⟨e, h⟩ := h
  subst e
  cases r
  exact assignInOrder_nil ⟨σ, H, I, h⟩
theorem pgs_cons {e : Expr} {es : List Expr} {t : TG} {u : TGs} (h1 : PG X e t) (h2 : PGs X es u)
    (hs : (assignEach (e :: es) X.env).map (·.2) = assign e X.env :: (assignEach es X.env).map (·.2) := by rfl) : PGs X (e :: es) (gCons t u) := by
  intro pins s σ H vs us Q I r h
  obtain ⟨v, vr, e1, h⟩ := h
  subst e1
  cases r with
  | cons r rr =>
    rw [hs]
    refine assignInOrder_cons (thn (h1 pins s σ H _ _ _ I r h) fun _ s1 ⟨σ1, H1, I1, q1⟩ => ?_)
    exact h2 pins s1 σ1 H1 _ _ Q I1 rr q1
def gTup (K : PySem.W.Frag) (n : Nat) (t : TGs) : TG := fun v σ H Q => ∃ a xs, v = .ref a ∧ SqT K H a xs ∧ xs.length = n ∧ t xs σ H Q
theorem pg_tup {es : List Expr} {k : Nat} {t : TGs} {n : Nat} (hc : X.calm = true) (h : PGs X es t)
    (hn : (assignEach es X.env).length = n := by rfl) (hst : (assignEach es X.env).findIdx? (·.1) = none := by rfl) : PG X (.Tuple es k pos) (gTup X.K n t) := by
  intro pins s σ H v u Q I r hw
  obtain ⟨a, xs, e1, hq, hl, hw⟩ := hw
  subst e1
  cases r
  obtain ⟨its, rv, ht, hz⟩ := I.tuple hq
  refine assign_Tuple_tuple (I.ok.hd hc) ht (by simp [hn, ← hl, rv.length]) hst fun h' hx => ?_
  have I1 : Inv X pins σ H { s with heap := h' } := I.kept (t' := s.toks) fun b o e => hx b o (Nat.ne_of_lt (Heap.lt_size e)) e
  exact h pins _ σ H xs _ Q I1 (by simpa using rv) hw
def gSub (to ti : TE) (t : TSet) : TG := fun v σ H Q => to σ H fun o H1 => ti σ H1 fun i H2 => t o i v H2 fun H3 => Q σ H3
theorem pg_sub {o i : Expr} {to ti : TE} {t : TSet} (ho : PE X o to) (hi : PE X i ti) (hs : PSet X t)
    (ha : ∀ v, assign (.Subscript o i pos) X.env v = (do
      let ov ← holding [v] (eval o X.env)
      let iv ← holding [v, ov] (eval i X.env)
      standAt pos
      holding [v, ov, iv] (setItem ov iv v)
      release [v, ov, iv] []) := by intro _; rfl) : PG X (.Subscript o i pos) (gSub to ti t) := by
  intro pins s σ H v u Q I r h
  rw [ha]
  refine wpAny_bind (wpAny_holding (thn (ho pins s σ H _ I h) fun ov s1 ⟨x, H1, I1, r1, q1⟩ => ?_))
  refine wpAny_bind (wpAny_holding (thn (hi pins s1 σ H1 _ I1 q1) fun iv s2 ⟨y, H2, I2, r2, q2⟩ => ?_))
  refine wpAny_bind (wpAny_standAt (wpAny_bind (wpAny_holding (thn (hs pins s2 σ H2 x y v ov iv u _ I2 r1 r2 r q2) fun _ s3 ⟨H3, I3, q3⟩ => ?_))))
  exact wpAny_release ⟨σ, H3, I3, q3⟩
def tAsg (te : TE) (g : TG) : TS := fun D σ H => te σ H fun x H1 => g x σ H1 D.nx
theorem ps_asg {tg e : Expr} {te : TE} {g : TG} (he : PE X e te) (hg : PG X tg g) (hs : swapsWithSole [tg] e pos.line X.env = pure false := by rfl) (hw : swappedStores [tg] e X.env = pure none := by rfl)
    (h1 : (assignEach [tg] X.env).map (·.2) = [assign tg X.env] := by rfl) : PS X (.Assign [tg] e pos) (tAsg te g) := by
  intro pins s σ H D I h
  refine wpAny_Assign_stores (thn (he pins s σ H _ I h) fun v s1 ⟨x, H1, I1, r1, q1⟩ => ?_) hs hw
  rw [h1]
  exact thn (hg pins s1 σ H1 x v _ I1 r1 q1) fun _ s2 q => q
theorem ps_set {i : Nat} {x : Str} {e : Expr} {te : TE} {pos' : Pos} (hN : X.N.Nodup) (hi : X.N[i]? = some x) (hx : Loc X.env.scope x) (he : PE X e te) (hs : swapsWith e (some (.Name x pos')) pos.line X.env = pure false := by rfl) (hf : X.fn x = true ∨ X.env.scope.names.lookup x = some .local := by first | exact .inl rfl | exact .inr rfl | assumption) :
    PS X (.Assign [.Name x pos'] e pos) (tAsg te (gName i)) := by
  intro pins s σ H D I h
  refine wpAny_Assign_Name (thn (he pins s σ H _ I h) fun v s1 ⟨y, H1, I1, r1, q1⟩ => ?_) hs
  exact store_ok I1 hN hi hx r1 (fun s2 I2 => ⟨_, H1, I2, q1⟩) hf
def tPar (i j : Nat) (ta : TA) : TS := fun D σ H => ta σ H fun vs H1 => ∃ v w, vs = [v, w] ∧ D.nx ((σ.set i (some v)).set j (some w)) H1
theorem ps_par {i j : Nat} {x y : Str} {a b : Expr} {ta : TA} {px py pt : Pos} {kt k2 pt2} (hc : X.calm = true) (hN : X.N.Nodup) (hi : X.N[i]? = some x) (hj : X.N[j]? = some y) (hij : i ≠ j)
    (hx : X.env.scope.names.lookup x = some .local) (hy : X.env.scope.names.lookup y = some .local) (ha : PA X [a, b] ta)
    (hw : swappedStores [.Tuple [.Name x px, .Name y py] kt pt] (.Tuple [a, b] k2 pt2) X.env = pure (some [x, y]))
    (hs : swapsWithSole [.Tuple [.Name x px, .Name y py] kt pt] (.Tuple [a, b] k2 pt2) pos.line X.env = pure false := by rfl) :
    PS X (.Assign [.Tuple [.Name x px, .Name y py] kt pt] (.Tuple [a, b] k2 pt2) pos) (tPar i j ta) := by
  intro pins s σ H D I h
  rw [exec_Assign_arm]
  refine wpAny_bind (wpAny_standAt ?_)
  rw [hs]
  refine wpAny_bind (wpAny_pure ?_)
  rw [if_neg (by decide)]
  refine wpAny_bind (Tuple_ (thn (ha _ pins s σ H _ I h) fun us s1 ⟨vs, H1, I1, r1, q1⟩ => ?_))
  obtain ⟨v, w, e1, q1⟩ := q1
  subst e1
  obtain ⟨u1, u2, rfl, rv, rw'⟩ : ∃ u1 u2, us = [u1, u2] ∧ RelV v u1 ∧ RelV w u2 := by
    cases r1 with
    | cons p q =>
      cases q with
      | cons p' q' =>
        cases q'
        exact ⟨_, _, rfl, p, p'⟩
  refine wpAny_newObj_type ?_ (by show 2 ≤ sizeLine; decide)
  have I2 : Inv X pins σ H1 { s1 with heap := s1.heap.push { cls := .type "tuple", data := .seq [u1, u2].toArray } } := I1.kept (t' := s1.toks) fun b o e => Heap.get?_push_of_some _ e
  rw [hw]
  refine wpAny_bind (wpAny_pure ?_)
  show wpAny (model X.prog X.w) X.A (do rule "assign.swapped-stores"; let items ← unpackItems (.ref s1.heap.objs.size) 2 none; assignInOrder [fun v => bindName X.env y v, fun v => bindName X.env x v] items.reverse; pure Flow.next) _ _ _
  refine wpAny_bind (wpAny_rule (wpAny_bind (unpackItems_tuple (items := #[u1, u2]) (I.ok.hd hc) (IsTup.new s1.heap _) fun h' hx' => ?_)))
  have I3 := I2.kept (h' := h') (t' := s1.toks) fun b o e => hx' b o (Nat.ne_of_lt (Heap.lt_size e)) e
  show wpAny _ _ (assignInOrder [fun v => bindName X.env y v, fun v => bindName X.env x v] [u2, u1] >>= fun _ => pure Flow.next) _ _ _
  refine wpAny_bind (assignInOrder_cons (wpAny_bindName (store_ok I3 hN hj (.inl hy) rw' (fun s2 I4 => ?_) (.inr hy))))
  refine assignInOrder_cons (wpAny_bindName (store_ok I4 hN hi (.inl hx) rv (fun s3 I5 => assignInOrder_nil (wpAny_pure ?_)) (.inr hx)))
  rw [List.set_comm _ _ (Ne.symm hij)] at I5
  exact ⟨_, H1, I5, q1⟩
end
section
variable {X : Cx} {pos : Pos}
def tWhile (c : TT) (tb : TS) : TS := fun D σ H => ∃ W : Nat → St → Hp → Prop, (∃ m, W m σ H) ∧ ∀ m σ H, W m σ H →
  c σ H fun b H1 => if b = true then ∃ N : St → Hp → Prop, (∀ σ' H', N σ' H' → ∃ m', m' < m ∧ W m' σ' H') ∧ tb { D with nx := N, ct := N, bk := D.nx } σ H1 else D.nx σ H1
theorem ps_while {c : Expr} {body : List Stmt} {tc : TT} {tb : TS} (hp : PassesOwn (model X.prog X.w) X.A X.env X.xe) (hc : PT X c tc) (hb : PSs X body tb) : PS X (.While c body [] pos) (tWhile tc tb) := by
  intro pins s σ H D I h
  obtain ⟨W, ⟨m0, w0⟩, turn⟩ := h
  refine wpAny_While (codeAny_whileLoop (fun n s' => ∃ σ' H', Inv X pins σ' H' s' ∧ W n σ' H') ?_ m0 ⟨σ, H, I, w0⟩)
  rintro n s1 ⟨σ1, H1, I1, w1⟩
  refine wpAny_passesOwn hp (thn (hc pins s1 σ1 H1 _ I1 (turn n σ1 H1 w1)) fun b s2 ⟨H2, I2, q2⟩ => ?_)
  cases b with
  | true =>
    obtain ⟨N, hN, q2⟩ := q2
    rw [if_pos rfl]
    refine wpAny_passesOwn hp (thn (hb pins s2 σ1 H2 _ I2 q2) fun f s3 q3 => ?_)
    cases f with
    | next =>
      obtain ⟨σ3, H3, I3, n3⟩ := q3
      obtain ⟨m', hm, w3⟩ := hN σ3 H3 n3
      exact ⟨m', hm, σ3, H3, I3, w3⟩
    | cont =>
      obtain ⟨σ3, H3, I3, n3⟩ := q3
      obtain ⟨m', hm, w3⟩ := hN σ3 H3 n3
      exact ⟨m', hm, σ3, H3, I3, w3⟩
    | brk => exact q3
    | ret v => exact q3
  | false =>
    rw [if_neg Bool.false_ne_true]
    exact wpAny_execs_nil ⟨σ1, H2, I2, q2⟩
end
structure It where
  go : Nat → Hp → Prop
  yld : Nat → Hp → V → Hp → Prop
  stop : Nat → Hp → Prop
def FpOk (X : Cx) (pins : List (Addr × Obj)) (H : Hp) (b : Addr) : Prop :=
  H b = none ∧ b ≠ X.env.locals ∧ b ∉ X.fs ∧ (b ∈ X.ex ∨ X.s₀.heap.objs.size ≤ b) ∧ (∀ x c, X.env.cells.lookup x = some c → c ≠ b) ∧ ∀ p ∈ X.pn ++ pins, p.1 ≠ b
theorem Inv.fpOk {X : Cx} {pins : List (Addr × Obj)} {σ : St} {H H' : Hp} {s : Shared} {b : Addr} (I : Inv X pins σ H s) (hb : s.heap.objs.size ≤ b) (hn : H' b = none) : FpOk X pins H' b := by
  refine ⟨hn, Nat.ne_of_gt (Nat.lt_of_lt_of_le I.lt hb), I.nofs hb, .inr (Nat.le_trans I.sz hb), fun x c e z => ?_, fun p hp z => ?_⟩
  · obtain ⟨v, q⟩ := I.cell x c e
    exact absurd (Nat.lt_of_lt_of_le q.lt (by rw [z]; exact hb)) (Nat.lt_irrefl _)
  · exact absurd (Nat.lt_of_lt_of_le (Heap.lt_size (I.pin p hp).1) (by rw [z]; exact hb)) (Nat.lt_irrefl _)
structure Turn (P : Program) (w : World) (K : PySem.W.Frag) (tg : Expr) (J : It) (fp : List Addr) (it : Addr) (tn : Nat → Heap → Prop) : Prop where
  mem : it ∈ fp
  obj : ∀ i h, tn i h → ∀ b ∈ fp, ∃ o, h.get? b = some o ∧ ∀ v, o.data ≠ .cell v
  keep : ∀ i h h', tn i h → (∀ b ∈ fp, ∀ o, h.get? b = some o → h'.get? b = some o) → tn i h'
  item : ∀ (X : Cx), X.prog = P → X.w = w → X.K = K → X.calm = true → ∀ (i : Nat) (pins : List (Addr × Obj)) (s : Shared) (σ : St) (H : Hp) (E : Value → Shared → Prop), Inv X pins σ H s → (∀ b ∈ fp, FpOk X pins H b) → tn i s.heap → J.go i H →
    wpAny (model P w) X.A (pyNext (.ref it)) (fun r s1 => ∃ u, r = some u ∧
      wpAny (model P w) X.A (letOwnedTupleGo tg (.ref it) u) (fun _ s2 => ∃ x H', Inv X pins σ H' s2 ∧ RelV x u ∧ J.yld i H x H' ∧ tn (i + 1) s2.heap ∧ ∀ b ∈ fp, H' b = none) E s1) E s
  done : ∀ (X : Cx), X.prog = P → X.w = w → X.K = K → X.calm = true → ∀ (i : Nat) (pins : List (Addr × Obj)) (s : Shared) (σ : St) (H : Hp) (E : Value → Shared → Prop), Inv X pins σ H s → (∀ b ∈ fp, FpOk X pins H b) → tn i s.heap → J.stop i H →
    wpAny (model P w) X.A (pyNext (.ref it)) (fun r s1 => r = none ∧ Inv X pins σ H s1) E s
  self : ∀ (A : Around) (i : Nat) (s : Shared) (Q : Value → Shared → Prop) (E : Value → Shared → Prop), tn i s.heap → Q (.ref it) s → wpAny (model P w) A (pyIter (.ref it)) Q E s
abbrev TI := St → Hp → (It → Hp → Prop) → Prop
def PIE (X : Cx) (pins : List (Addr × Obj)) (σ : St) (tg : Expr) (R : It → Hp → Prop) (itv : Value) (s2 : Shared) : Prop :=
  ∃ (it : Addr) (fp : List Addr) (tn : Nat → Heap → Prop) (J : It) (H' : Hp), itv = .ref it ∧ Inv X pins σ H' s2 ∧ Turn X.prog X.w X.K tg J fp it tn ∧ tn 0 s2.heap ∧ (∀ b ∈ fp, FpOk X pins H' b) ∧ R J H'
def PI (X : Cx) (tg iter : Expr) (wi : TI) : Prop :=
  ∀ (pins : List (Addr × Obj)) (s : Shared) (σ : St) (H : Hp) (R : It → Hp → Prop), Inv X pins σ H s → wi σ H R →
    wpAny (model X.prog X.w) X.A (eval iter X.env) (fun v s1 => wpAny (model X.prog X.w) X.A (pyIter v) (PIE X pins σ tg R) X.xe s1) X.xe s
theorem go_of {M : Model} {A : Around} {E : Value → Shared → Prop} {s : Shared} {tg : Expr} {it : Addr} {u : Value} {o : Obj} {n : String} {vs : Array Value} {Q : Unit → Shared → Prop} (ho : s.heap.get? it = some o) (hc : o.cls = .type n) (hd : o.data = .fields vs)
    (hn : ["enumerate", "zip", "dict_itemiterator", "dict_reverseitemiterator", "odict_iterator", "itertools.zip_longest", "itertools.pairwise"].contains n = false) (hQ : Q () s) : wpAny M A (letOwnedTupleGo tg (.ref it) u) Q E s := by
  unfold letOwnedTupleGo
  cases tg <;> first
    | exact wpAny_pure hQ
    | (cases u <;> first
        | exact wpAny_pure hQ
        | (refine wpAny_bind (wpAny_load ho ?_)
           rw [hc, hd]
           show wpAny M A (if (["enumerate", "zip", "dict_itemiterator", "dict_reverseitemiterator", "odict_iterator", "itertools.zip_longest", "itertools.pairwise"].contains n && vs[0]? == some (rawInt _)) = true then _ else _) Q E s
           rw [if_neg (by intro h; rw [hn, Bool.false_and] at h; cases h)]
           exact wpAny_pure hQ))
def Itl (K : PySem.W.Frag) (a : Addr) : It :=
  ⟨fun i H => ∃ xs x, SqL K H a xs ∧ xs[i]? = some x, fun i H x H' => H' = H ∧ ∀ xs, SqL K H a xs → xs[i]? = some x, fun i H => ∃ xs, SqL K H a xs ∧ xs.length ≤ i⟩
def Itt (K : PySem.W.Frag) (a : Addr) : It :=
  ⟨fun i H => ∃ xs x, SqT K H a xs ∧ xs[i]? = some x, fun i H x H' => H' = H ∧ ∀ xs, SqT K H a xs → xs[i]? = some x, fun i H => ∃ xs, SqT K H a xs ∧ xs.length ≤ i⟩
def Itr (lo : Int) (n : Nat) : It := ⟨fun i _ => i < n, fun i H x H' => H' = H ∧ x = .int (lo + i), fun i _ => n ≤ i⟩
theorem turn_list {P : Program} {w : World} {K : PySem.W.Frag} {tg : Expr} (a it : Addr) : Turn P w K tg (Itl K a) [it] it (fun i h => h.IsListIter it a i) where
  mem := by simp
  obj := fun i h st b hb => by
    have e : b = it := by simpa using hb
    subst e
    obtain ⟨o, e, c, d⟩ := st
    exact ⟨o, e, fun v z => by rw [d] at z; cases z⟩
  keep := fun i h h' st k => st.at fun o e => k it (by simp) o e
  item := by
    intro X hP hw hK hc i pins s σ H E I hf st hg
    subst hP hw hK
    obtain ⟨xs, x, hq, hx⟩ := hg
    obtain ⟨its, rv, p, hz⟩ := I.list hq
    obtain ⟨u, hu, ru⟩ := rv.get hx
    obtain ⟨f0, f1, f2, f3, f4, f5⟩ := hf it (by simp)
    refine wpAny_pyNext_list_item st p.isList (x := u) (by simpa using hu) fun h' st' sb => ?_
    have I1 : Inv X pins σ H { s with heap := h' } := I.turned (t' := s.toks) (fun b o hb e => (sb.2 b hb).trans e) f0 f1 f3 f4 f5
    obtain ⟨o, e, c, d⟩ := id st'
    exact ⟨u, rfl, go_of (s := { s with heap := h' }) e c d (by decide) ⟨x, H, I1, ru, ⟨rfl, fun ys hy => by rw [I.list_inj hy hq]; exact hx⟩, st', fun b hb => (hf b hb).1⟩⟩
  done := by
    intro X hP hw hK hc i pins s σ H E I hf st hg
    subst hP hw hK
    obtain ⟨xs, hq, hx⟩ := hg
    obtain ⟨its, rv, p, hz⟩ := I.list hq
    obtain ⟨f0, f1, f2, f3, f4, f5⟩ := hf it (by simp)
    have hl := rv.length
    exact wpAny_pyNext_list_end (I.ok.hd hc) st p.isList (by simp; omega) fun h' eb => ⟨rfl, I.turned (t' := s.toks) (fun b o hb e => eb b o hb e) f0 f1 f3 f4 f5⟩
  self := fun _ _ _ _ _ st h => wpAny_pyIter_listiter st h
theorem turn_tuple {P : Program} {w : World} {K : PySem.W.Frag} {tg : Expr} (a it : Addr) : Turn P w K tg (Itt K a) [it] it (fun i h => h.IsTupleIter it a i) where
  mem := by simp
  obj := fun i h st b hb => by
    have e : b = it := by simpa using hb
    subst e
    obtain ⟨o, e, c, d⟩ := st
    exact ⟨o, e, fun v z => by rw [d] at z; cases z⟩
  keep := fun i h h' st k => st.at fun o e => k it (by simp) o e
  item := by
    intro X hP hw hK hc i pins s σ H E I hf st hg
    subst hP hw hK
    obtain ⟨xs, x, hq, hx⟩ := hg
    obtain ⟨its, rv, p, hz⟩ := I.tuple hq
    obtain ⟨u, hu, ru⟩ := rv.get hx
    obtain ⟨f0, f1, f2, f3, f4, f5⟩ := hf it (by simp)
    refine wpAny_pyNext_tuple_item st (show s.heap.IsTuple a its.toArray from p) (x := u) (by simpa using hu) fun h' st' sb => ?_
    have I1 : Inv X pins σ H { s with heap := h' } := I.turned (t' := s.toks) (fun b o hb e => (sb.2 b hb).trans e) f0 f1 f3 f4 f5
    obtain ⟨o, e, c, d⟩ := id st'
    exact ⟨u, rfl, go_of (s := { s with heap := h' }) e c d (by decide) ⟨x, H, I1, ru, ⟨rfl, fun ys hy => by rw [I.tuple_inj hy hq]; exact hx⟩, st', fun b hb => (hf b hb).1⟩⟩
  done := by
    intro X hP hw hK hc i pins s σ H E I hf st hg
    subst hP hw hK
    obtain ⟨xs, hq, hx⟩ := hg
    obtain ⟨its, rv, p, hz⟩ := I.tuple hq
    obtain ⟨f0, f1, f2, f3, f4, f5⟩ := hf it (by simp)
    have hl := rv.length
    exact wpAny_pyNext_tuple_end (I.ok.hd hc) st (show s.heap.IsTuple a its.toArray from p) (by simp; omega) fun h' eb => ⟨rfl, I.turned (t' := s.toks) (fun b o hb e => eb b o hb e) f0 f1 f3 f4 f5⟩
  self := fun _ _ _ _ _ st h => wpAny_pyIter_tupleiter st h
theorem turn_range {P : Program} {w : World} {K : PySem.W.Frag} {tg : Expr} (it : Addr) (lo : Int) (n : Nat) : Turn P w K tg (Itr lo n) [it] it (fun i h => IsRangeIter h it (lo + (i : Nat) * 1) ((n : Int) - (i : Nat)) 1) where
  mem := by simp
  obj := fun i h st b hb => by
    have e : b = it := by simpa using hb
    subst e
    exact ⟨_, st, fun v z => by
      have z' : Data.fields _ = Data.cell v := z
      cases z'⟩
  keep := fun i h h' st k => k it (by simp) _ st
  item := by
    intro X hP hw hK hc i pins s σ H E I hf st hg
    subst hP hw hK
    obtain ⟨f0, f1, f2, f3, f4, f5⟩ := hf it (by simp)
    have W := Walks.range (prog := X.prog) (w := X.w) (I.ok.hd hc) it lo 1 n
    refine W.item i s _ _ hg st fun v h' tk hv st' kk => ?_
    obtain ⟨t, rfl⟩ := hv
    have I1 : Inv X pins σ H { s with heap := h', toks := tk } := I.turned (fun b o hb e => kk b o (by simpa using hb) e) f0 f1 f3 f4 f5
    refine ⟨_, rfl, go_of (s := { s with heap := h', toks := tk }) (n := "range_iterator") st' rfl rfl (by decide) ⟨.int (lo + i), H, I1, ⟨t, ?_⟩, ⟨rfl, rfl⟩, st', fun b hb => (hf b hb).1⟩⟩
    rw [Int.mul_one]
  done := by
    intro X hP hw hK hc i pins s σ H E I hf st hg
    subst hP hw hK
    obtain ⟨f0, f1, f2, f3, f4, f5⟩ := hf it (by simp)
    exact wpAny_pyNext_range_end (I.ok.hd hc) st (by have : n ≤ i := hg; omega) fun h' eb => ⟨rfl, I.turned (t' := s.toks) (fun b o hb e => eb b o hb e) f0 f1 f3 f4 f5⟩
  self := fun _ _ _ _ _ st h => wpAny_pyIter_rangeiter st h
end L2
namespace L2
open PySem PySem.Spec PyProof.Rows
section
variable {X : Cx} {tg : Expr}
def iList (K : PySem.W.Frag) (tl : TE) : TI := fun σ H R => tl σ H fun x H1 => ∃ a, x = .ref a ∧ (∃ xs, SqL K H1 a xs) ∧ R (Itl K a) H1
def iTup (K : PySem.W.Frag) (tl : TE) : TI := fun σ H R => tl σ H fun x H1 => ∃ a, x = .ref a ∧ (∃ xs, SqT K H1 a xs) ∧ R (Itt K a) H1
theorem pi_list {l : Expr} {tl : TE} (hl : PE X l tl) : PI X tg l (iList X.K tl) := by
  intro pins s σ H R I h
  refine thn (hl pins s σ H _ I h) fun v s1 ⟨x, H1, I1, r1, q1⟩ => ?_
  obtain ⟨a, e, ⟨xs, hq⟩, q⟩ := q1
  subst e
  cases r1
  obtain ⟨its, rv, p, hz⟩ := I1.list hq
  refine wpAny_pyIter_list p.isList ?_
  refine ⟨s1.heap.objs.size, [s1.heap.objs.size], _, _, H1, rfl, I1.kept (t' := s1.toks) fun b o e => Heap.get?_push_of_some _ e, turn_list a _, ⟨_, Heap.get?_push_size _ rfl, rfl, rfl⟩, fun b hb => ?_, q⟩
  have e : b = s1.heap.objs.size := by simpa using hb
  subst e
  exact I1.fpOk (Nat.le_refl _) (I1.hok.fresh (Nat.le_refl _))
theorem pi_tup {l : Expr} {tl : TE} (hl : PE X l tl) : PI X tg l (iTup X.K tl) := by
  intro pins s σ H R I h
  refine thn (hl pins s σ H _ I h) fun v s1 ⟨x, H1, I1, r1, q1⟩ => ?_
  obtain ⟨a, e, ⟨xs, hq⟩, q⟩ := q1
  subst e
  cases r1
  obtain ⟨its, rv, p, hz⟩ := I1.tuple hq
  refine wpAny_pyIter_tuple (show s1.heap.IsTuple a its.toArray from p) ?_
  refine ⟨s1.heap.objs.size, [s1.heap.objs.size], _, _, H1, rfl, I1.kept (t' := s1.toks) fun b o e => Heap.get?_push_of_some _ e, turn_tuple a _, ⟨_, Heap.get?_push_size _ rfl, rfl, rfl⟩, fun b hb => ?_, q⟩
  have e : b = s1.heap.objs.size := by simpa using hb
  subst e
  exact I1.fpOk (Nat.le_refl _) (I1.hok.fresh (Nat.le_refl _))
theorem range_it {pins : List (Addr × Obj)} {σ : St} {H : Hp} {s : Shared} {R : It → Hp → Prop} {E : Value → Shared → Prop} {lo hi : Int} {t u v : Tok} {tk : Nat} (I : Inv X pins σ H s) (h1 : -(2 ^ 62) ≤ lo) (h2 : lo < 2 ^ 62) (h3 : -(2 ^ 62) ≤ hi) (h4 : hi < 2 ^ 62)
    (q : R (Itr lo (hi - lo).toNat) H) : wpAny (model X.prog X.w) X.A (pyIter (.ref s.heap.objs.size)) (PIE X pins σ tg R) E { s with heap := s.heap.push { cls := .type "range", data := .fields #[.int lo t, .int hi u, .int 1 v] }, toks := tk } := by
  refine wpAny_pyIter_range (IsRange.new ..) (small_one h1 h2 h3 h4) ?_
  have I1 : Inv X pins σ H { s with heap := s.heap.push { cls := .type "range", data := .fields #[.int lo t, .int hi u, .int 1 v] }, toks := tk } := I.kept fun b o e => Heap.get?_push_of_some _ e
  refine ⟨(s.heap.push { cls := .type "range", data := .fields #[.int lo t, .int hi u, .int 1 v] }).objs.size, [(s.heap.push { cls := .type "range", data := .fields #[.int lo t, .int hi u, .int 1 v] }).objs.size], _, _, H, rfl,
    I1.kept (t' := tk) fun b o e => Heap.get?_push_of_some _ e, turn_range _ lo (hi - lo).toNat, ?_, fun b hb => ?_, q⟩
  · have e1 : lo + ((0 : Nat) : Int) * 1 = lo := by simp
    have e2 : (((hi - lo).toNat : Nat) : Int) - ((0 : Nat) : Int) = Builtin.Range.rangeSize lo hi 1 := by rw [rangeSize_one]; split <;> omega
    show IsRangeIter _ _ (lo + ((0 : Nat) : Int) * 1) ((((hi - lo).toNat : Nat) : Int) - ((0 : Nat) : Int)) 1
    rw [e1, e2]
    exact Heap.get?_push_size _ rfl
  · have e : b = (s.heap.push { cls := .type "range", data := .fields #[.int lo t, .int hi u, .int 1 v] }).objs.size := by simpa using hb
    subst e
    exact I1.fpOk (Nat.le_refl _) (I1.hok.fresh (Nat.le_refl _))
def iRng1 (ta : TA) : TI := fun σ H R => ta σ H fun vs H1 => ∃ j : Int, vs = [.int j] ∧ -(2 ^ 62) ≤ j ∧ j < 2 ^ 62 ∧ R (Itr 0 j.toNat) H1
theorem pi_range1 {a : Expr} {ta : TA} {p pos : Pos} (hg : Gl X "range") (hm : X.mg "range" = none) (ha : PA X [a] ta) (hs : starEach [a] X.env = [(false, eval a X.env)] := by rfl) : PI X tg (.Call (.Name "range" p) [a] [] pos) (iRng1 ta) := by
  intro pins s σ H R I h
  refine Call_ (ld_blt I hg hm boot_range (PyProof.Rows.callWith_type1 (thn (ha pos pins s σ H _ I h) fun us s1 ⟨vs, H1, I1, r1, q1⟩ => ?_) hs rfl))
  obtain ⟨j, e, q1, q2, q⟩ := q1
  subst e
  cases r1 with
  | cons r rr =>
    cases rr
    obtain ⟨t, rfl⟩ := r
    exact call_range_1 (range_it I1 (by omega) (by omega) q1 q2 (by simpa using q))
def tFor (wi : TI) (g : TG) (tb : TS) : TS := fun D σ H => wi σ H fun J H1 => ∃ W : Nat → Nat → St → Hp → Prop, (∃ m, W 0 m σ H1) ∧ ∀ i m σ H, W i m σ H →
  (J.stop i H ∧ D.nx σ H) ∨ (J.go i H ∧ ∃ N : St → Hp → Prop, (∀ σ' H', N σ' H' → ∃ m', m' < m ∧ W (i + 1) m' σ' H') ∧ ∀ x H', J.yld i H x H' → g x σ H' fun σ2 H2 => tb { D with nx := N, ct := N, bk := D.nx } σ2 H2)
def pinsAt (fp : List Addr) (h : Heap) : List (Addr × Obj) := fp.filterMap fun b => (h.get? b).map fun o => (b, o)
theorem mem_pinsAt {fp : List Addr} {h : Heap} {b : Addr} {o : Obj} (hb : b ∈ fp) (e : h.get? b = some o) : (b, o) ∈ pinsAt fp h := List.mem_filterMap.mpr ⟨b, hb, by rw [e]; rfl⟩
theorem of_pinsAt {fp : List Addr} {h : Heap} {p : Addr × Obj} (hp : p ∈ pinsAt fp h) : p.1 ∈ fp ∧ h.get? p.1 = some p.2 := by
  obtain ⟨b, hb, e⟩ := List.mem_filterMap.mp hp
  cases q : h.get? b with
  | none => rw [q] at e; cases e
  | some o =>
    rw [q] at e
    have e' : (b, o) = p := Option.some.inj e
    subst e'
    exact ⟨hb, q⟩
theorem Inv.pinned {pins : List (Addr × Obj)} {σ : St} {H : Hp} {s : Shared} {fp : List Addr} (I : Inv X pins σ H s) (hf : ∀ b ∈ fp, FpOk X pins H b) (ho : ∀ b ∈ fp, ∃ o, s.heap.get? b = some o ∧ ∀ v, o.data ≠ .cell v) : Inv X (pins ++ pinsAt fp s.heap) σ H s :=
  I.pins_of fun p hp => (List.mem_append.mp hp).elim (fun z => I.pin p (List.mem_append_right _ z)) fun z => by
    obtain ⟨hb, e⟩ := of_pinsAt z
    obtain ⟨f0, f1, f2, _⟩ := hf p.1 hb
    obtain ⟨o, e', d⟩ := ho p.1 hb
    rw [e] at e'; cases e'
    exact ⟨e, f0, f1, f2, d⟩
theorem Inv.unpinned {pins pl : List (Addr × Obj)} {σ : St} {H : Hp} {s : Shared} (I : Inv X (pins ++ pl) σ H s) : Inv X pins σ H s := I.pins_of fun p hp => I.pin p (List.mem_append_right _ (List.mem_append_left _ hp))
theorem ps_for {iter : Expr} {body : List Stmt} {wi : TI} {g : TG} {tb : TS} {pos : Pos} (hp : PassesOwn (model X.prog X.w) X.A X.env X.xe) (hc : X.calm = true) (hi : PI X tg iter wi) (hg : PG X tg g) (hb : PSs X body tb)
    (hs : ∀ x, foldedSetIterable iter X.env x = pure x := by intro _; rfl) : PS X (.For tg iter body [] pos) (tFor wi g tb) := by
  intro pins s σ H D I h
  refine wpAny_For (thn (hi pins s σ H _ I h) fun v s1 h1 => thn h1 fun itv s2 h2 => ?_) hs
  obtain ⟨it, fp, tn, J, H2, e, I2, T, st2, f2, W, ⟨m0, w0⟩, turn⟩ := h2
  subst e
  have stat : ∀ {H' : Hp}, (∀ b ∈ fp, H' b = none) → ∀ b ∈ fp, FpOk X pins H' b := fun hn b hb => ⟨hn b hb, (f2 b hb).2⟩
  refine codeAny_forLoop_any (fun n s' => ∃ i σ' H', Inv X pins σ' H' s' ∧ tn i s'.heap ∧ (∀ b ∈ fp, H' b = none) ∧ W i n σ' H') ?_ m0 ⟨0, σ, H2, I2, st2, fun b hb => (f2 b hb).1, w0⟩
  rintro n s3 ⟨i, σ3, H3, I3, st3, fr3, w3⟩
  rcases turn i n σ3 H3 w3 with ⟨stop, qn⟩ | ⟨go, N, hN, step⟩
  · refine wpAny_passesOwn hp (thn (T.done X rfl rfl rfl hc i pins s3 σ3 H3 X.xe I3 (stat fr3) st3 stop) fun r s4 ⟨hr, I4⟩ => ?_)
    subst hr
    exact wpAny_execs_nil ⟨σ3, H3, I4, qn⟩
  · refine wpAny_passesOwn hp (thn (T.item X rfl rfl rfl hc i pins s3 σ3 H3 X.xe I3 (stat fr3) st3 go) fun r s4 ⟨u, hr, h4⟩ => ?_)
    subst hr
    refine wpAny_passesOwn hp (thn h4 fun _ s5 ⟨x, H5, I5, r5, y5, st5, fr5⟩ => ?_)
    have I5' := I5.pinned (stat fr5) (T.obj _ _ st5)
    refine wpAny_passesOwn hp (thn (hg _ s5 σ3 H5 x u _ I5' r5 (step x H5 y5)) fun _ s6 ⟨σ6, H6, I6, q6⟩ => ?_)
    refine wpAny_passesOwn hp (thn (hb _ s6 σ6 H6 _ I6 q6) fun f s7 q7 => ?_)
    have again : ∀ {σ7 : St} {H7 : Hp}, Inv X (pins ++ pinsAt fp s5.heap) σ7 H7 s7 → N σ7 H7 → ∃ m, m < n ∧ ∃ i σ' H', Inv X pins σ' H' s7 ∧ tn i s7.heap ∧ (∀ b ∈ fp, H' b = none) ∧ W i m σ' H' := fun {σ7 H7} I7 n7 => by
      obtain ⟨m', hm, w7⟩ := hN σ7 H7 n7
      refine ⟨m', hm, i + 1, σ7, H7, I7.unpinned, T.keep _ _ _ st5 fun b hb o e => (I7.pin (b, o) (List.mem_append_right _ (List.mem_append_right _ (mem_pinsAt hb e)))).1, fun b hb => ?_, w7⟩
      obtain ⟨o, e, d⟩ := T.obj _ _ st5 b hb
      exact (I7.pin (b, o) (List.mem_append_right _ (List.mem_append_right _ (mem_pinsAt hb e)))).2.1
    cases f with
    | next => obtain ⟨σ7, H7, I7, n7⟩ := q7; exact again I7 n7
    | cont => obtain ⟨σ7, H7, I7, n7⟩ := q7; exact again I7 n7
    | brk => obtain ⟨σ7, H7, I7, q7⟩ := q7; exact ⟨σ7, H7, I7.unpinned, q7⟩
    | ret v => obtain ⟨x7, σ7, H7, I7, r7, q7⟩ := q7; exact ⟨x7, σ7, H7, I7.unpinned, r7, q7⟩
end
theorem for_list {K : PySem.W.Frag} {a : Addr} {xs : List V} {g : TG} {tb : TS} {D : Ends} {σ : St} {H : Hp} (Pv : Nat → St → Hp → Prop) (h0 : Pv 0 σ H) (hl : ∀ i σ H, i ≤ xs.length → Pv i σ H → SqL K H a xs)
    (hs : ∀ i x σ H, xs[i]? = some x → Pv i σ H → g x σ H fun σ2 H2 => tb { D with nx := Pv (i + 1), ct := Pv (i + 1), bk := D.nx } σ2 H2) (hd : ∀ σ H, Pv xs.length σ H → D.nx σ H) :
    ∃ W : Nat → Nat → St → Hp → Prop, (∃ m, W 0 m σ H) ∧ ∀ i m σ H, W i m σ H →
      ((Itl K a).stop i H ∧ D.nx σ H) ∨ ((Itl K a).go i H ∧ ∃ N : St → Hp → Prop, (∀ σ' H', N σ' H' → ∃ m', m' < m ∧ W (i + 1) m' σ' H') ∧ ∀ x H', (Itl K a).yld i H x H' → g x σ H' fun σ2 H2 => tb { D with nx := N, ct := N, bk := D.nx } σ2 H2) := by
  refine ⟨fun i m σ H => m = xs.length - i ∧ i ≤ xs.length ∧ Pv i σ H, ⟨xs.length, by simp, Nat.zero_le _, h0⟩, ?_⟩
  rintro i m σ H ⟨rfl, hi, p⟩
  have q := hl i σ H hi p
  by_cases hlt : i < xs.length
  · refine .inr ⟨⟨xs, xs[i], q, by simp [hlt]⟩, Pv (i + 1), fun σ' H' p' => ⟨xs.length - (i + 1), by omega, rfl, hlt, p'⟩, fun x H' y => ?_⟩
    obtain ⟨e, y⟩ := y
    subst e
    exact hs i x σ _ (y xs q) p
  · have e : i = xs.length := by omega
    subst e
    exact .inl ⟨⟨xs, q, Nat.le_refl _⟩, hd σ H p⟩
theorem for_tup {K : PySem.W.Frag} {a : Addr} {xs : List V} {g : TG} {tb : TS} {D : Ends} {σ : St} {H : Hp} (Pv : Nat → St → Hp → Prop) (h0 : Pv 0 σ H) (hl : ∀ i σ H, i ≤ xs.length → Pv i σ H → SqT K H a xs)
    (hs : ∀ i x σ H, xs[i]? = some x → Pv i σ H → g x σ H fun σ2 H2 => tb { D with nx := Pv (i + 1), ct := Pv (i + 1), bk := D.nx } σ2 H2) (hd : ∀ σ H, Pv xs.length σ H → D.nx σ H) :
    ∃ W : Nat → Nat → St → Hp → Prop, (∃ m, W 0 m σ H) ∧ ∀ i m σ H, W i m σ H →
      ((Itt K a).stop i H ∧ D.nx σ H) ∨ ((Itt K a).go i H ∧ ∃ N : St → Hp → Prop, (∀ σ' H', N σ' H' → ∃ m', m' < m ∧ W (i + 1) m' σ' H') ∧ ∀ x H', (Itt K a).yld i H x H' → g x σ H' fun σ2 H2 => tb { D with nx := N, ct := N, bk := D.nx } σ2 H2) := by
  refine ⟨fun i m σ H => m = xs.length - i ∧ i ≤ xs.length ∧ Pv i σ H, ⟨xs.length, by simp, Nat.zero_le _, h0⟩, ?_⟩
  rintro i m σ H ⟨rfl, hi, p⟩
  have q := hl i σ H hi p
  by_cases hlt : i < xs.length
  · refine .inr ⟨⟨xs, xs[i], q, by simp [hlt]⟩, Pv (i + 1), fun σ' H' p' => ⟨xs.length - (i + 1), by omega, rfl, hlt, p'⟩, fun x H' y => ?_⟩
    obtain ⟨e, y⟩ := y
    subst e
    exact hs i x σ _ (y xs q) p
  · have e : i = xs.length := by omega
    subst e
    exact .inl ⟨⟨xs, q, Nat.le_refl _⟩, hd σ H p⟩
theorem for_range {lo : Int} {n : Nat} {g : TG} {tb : TS} {D : Ends} {σ : St} {H : Hp} (Pv : Nat → St → Hp → Prop) (h0 : Pv 0 σ H)
    (hs : ∀ i σ H, i < n → Pv i σ H → g (.int (lo + i)) σ H fun σ2 H2 => tb { D with nx := Pv (i + 1), ct := Pv (i + 1), bk := D.nx } σ2 H2) (hd : ∀ σ H, Pv n σ H → D.nx σ H) :
    ∃ W : Nat → Nat → St → Hp → Prop, (∃ m, W 0 m σ H) ∧ ∀ i m σ H, W i m σ H →
      ((Itr lo n).stop i H ∧ D.nx σ H) ∨ ((Itr lo n).go i H ∧ ∃ N : St → Hp → Prop, (∀ σ' H', N σ' H' → ∃ m', m' < m ∧ W (i + 1) m' σ' H') ∧ ∀ x H', (Itr lo n).yld i H x H' → g x σ H' fun σ2 H2 => tb { D with nx := N, ct := N, bk := D.nx } σ2 H2) := by
  refine ⟨fun i m σ H => m = n - i ∧ i ≤ n ∧ Pv i σ H, ⟨n, by simp, Nat.zero_le _, h0⟩, ?_⟩
  rintro i m σ H ⟨rfl, hi, p⟩
  by_cases hlt : i < n
  · refine .inr ⟨hlt, Pv (i + 1), fun σ' H' p' => ⟨n - (i + 1), by omega, rfl, hlt, p'⟩, fun x H' y => ?_⟩
    obtain ⟨e, y⟩ := y
    subst e y
    exact hs i σ _ hlt p
  · have e : i = n := by omega
    subst e
    exact .inl ⟨Nat.le_refl _, hd σ H p⟩
end L2
namespace L2
open PySem PySem.Spec PyProof.Rows
abbrev R2 := V → V → Hp → VK → Prop
def OpR (X : Cx) (f : Value → Value → Sem Value) (r : R2) : Prop :=
  ∀ (pins : List (Addr × Obj)) (s : Shared) (σ : St) (H : Hp) (x y : V) (v u : Value) (Q : VK), Inv X pins σ H s → RelV x v → RelV y u → r x y H Q →
    wpAny (model X.prog X.w) X.A (f v u) (EP X pins σ Q) X.xe s
def UnR (X : Cx) (f : Value → Sem Value) (r : V → Hp → VK → Prop) : Prop :=
  ∀ (pins : List (Addr × Obj)) (s : Shared) (σ : St) (H : Hp) (x : V) (v : Value) (Q : VK), Inv X pins σ H s → RelV x v → r x H Q →
    wpAny (model X.prog X.w) X.A (f v) (EP X pins σ Q) X.xe s
def CallR (X : Cx) (f : Value) (r : List V → Hp → VK → Prop) : Prop :=
  ∀ (pins : List (Addr × Obj)) (s : Shared) (σ : St) (H : Hp) (xs : List V) (us : List Value) (Q : VK), Inv X pins σ H s → Vals xs us → r xs H Q →
    wpAny (model X.prog X.w) X.A (call f us) (EP X pins σ Q) X.xe s
def TruR (X : Cx) (r : V → Hp → (Bool → Hp → Prop) → Prop) : Prop :=
  ∀ (pins : List (Addr × Obj)) (s : Shared) (σ : St) (H : Hp) (x : V) (v : Value) (Q : Bool → Hp → Prop), Inv X pins σ H s → RelV x v → r x H Q →
    wpAny (model X.prog X.w) X.A (truthy v) (TP X pins σ Q) X.xe s
def tOp (r : R2) (ta tb : TE) : TE := fun σ H Q => ta σ H fun x H1 => tb σ H1 fun y H2 => r x y H2 Q
def tUn (r : V → Hp → VK → Prop) (ta : TE) : TE := fun σ H Q => ta σ H fun x H1 => r x H1 Q
def rI (C : Int → Int → Prop) (g : Int → Int → V) : R2 := fun x y H Q => ∃ i j, x = .int i ∧ y = .int j ∧ C i j ∧ Q (g i j) H
def rI0 (g : Int → Int → V) : R2 := fun x y H Q => ∃ i j, x = .int i ∧ y = .int j ∧ Q (g i j) H
def rU (g : Int → V) : V → Hp → VK → Prop := fun x H Q => ∃ i, x = .int i ∧ Q (g i) H
section
variable {X : Cx} {a b c : Expr} {ta tb tc : TE} {pos : Pos}
theorem binT (ha : PE X a ta) (hb : PE X b tb) {pins : List (Addr × Obj)} {s : Shared} {σ : St} {H : Hp} {R : V → V → Hp → Prop} (I : Inv X pins σ H s)
    (h : ta σ H fun x H1 => tb σ H1 fun y H2 => R x y H2) {Q : Value → Shared → Prop} {f : Value → Value → Sem Value}
    (hf : ∀ v u s2 x y H2, Inv X pins σ H2 s2 → RelV x v → RelV y u → R x y H2 → wpAny (model X.prog X.w) X.A (f v u) Q X.xe s2) :
    wpAny (model X.prog X.w) X.A (eval a X.env) (fun v s₁ => wpAny (model X.prog X.w) X.A (eval b X.env) (fun u s₂ => wpAny (model X.prog X.w) X.A (f v u) Q X.xe s₂) X.xe s₁) X.xe s := by
  refine thn (ha pins s σ H _ I h) fun v s1 ⟨x, H1, I1, r1, q1⟩ => ?_
  refine thn (hb pins s1 σ H1 _ I1 q1) fun u s2 ⟨y, H2, I2, r2, q2⟩ => ?_
  exact hf v u s2 x y H2 I2 r1 r2 q2
theorem pe_op {op : Operator} {r : R2} (ho : OpR X (binaryOp op) r) (ha : PE X a ta) (hb : PE X b tb) : PE X (.BinOp a op b pos) (tOp r ta tb) := by
  intro pins s σ H Q I h
  exact wpAny_BinOp (binT ha hb I h fun v u s2 x y H2 I2 rx ry q => ho pins s2 σ H2 x y v u Q I2 rx ry q)
theorem pe_un {op : UnaryOp} {r : V → Hp → VK → Prop} (ho : UnR X (unaryOp op) r) (ha : PE X a ta) : PE X (.UnaryOp op a pos) (tUn r ta) := by
  intro pins s σ H Q I h
  exact UnaryOp_ (thn (ha pins s σ H _ I h) fun v s1 ⟨x, H1, I1, r1, q1⟩ => ho pins s1 σ H1 x v Q I1 r1 q1)
theorem opI {f : Value → Value → Sem Value} {C : Int → Int → Prop} {g : Int → Int → Int}
    (rule : ∀ (i j : Int) (t u : Tok) (s : Shared) (Q : Value → Shared → Prop) (E : Value → Shared → Prop), C i j → Q (.int (g i j) s.toks) { s with toks := s.toks + 1 } → wpAny (model X.prog X.w) X.A (f (.int i t) (.int j u)) Q E s) :
    OpR X f (rI C fun i j => .int (g i j)) := by
  intro pins s σ H x y v u Q I rx ry h
  obtain ⟨i, j, rfl, rfl, hc, q⟩ := h
  obtain ⟨t, rfl⟩ := rx
  obtain ⟨t', rfl⟩ := ry
  exact rule i j t t' s _ _ hc ⟨.int (g i j), H, I.tok _, ⟨_, rfl⟩, q⟩
theorem opI0 {f : Value → Value → Sem Value} {g : Int → Int → Int}
    (rule : ∀ (i j : Int) (t u : Tok) (s : Shared) (Q : Value → Shared → Prop) (E : Value → Shared → Prop), Q (.int (g i j) s.toks) { s with toks := s.toks + 1 } → wpAny (model X.prog X.w) X.A (f (.int i t) (.int j u)) Q E s) :
    OpR X f (rI0 fun i j => .int (g i j)) := by
  intro pins s σ H x y v u Q I rx ry h
  obtain ⟨i, j, rfl, rfl, q⟩ := h
  obtain ⟨t, rfl⟩ := rx
  obtain ⟨t', rfl⟩ := ry
  exact rule i j t t' s _ _ ⟨.int (g i j), H, I.tok _, ⟨_, rfl⟩, q⟩
theorem opB0 {f : Value → Value → Sem Value} {g : Int → Int → Bool}
    (rule : ∀ (i j : Int) (t u : Tok) (s : Shared) (Q : Value → Shared → Prop) (E : Value → Shared → Prop), Q (.bool (g i j)) s → wpAny (model X.prog X.w) X.A (f (.int i t) (.int j u)) Q E s) :
    OpR X f (rI0 fun i j => .bl (g i j)) := by
  intro pins s σ H x y v u Q I rx ry h
  obtain ⟨i, j, rfl, rfl, q⟩ := h
  obtain ⟨t, rfl⟩ := rx
  obtain ⟨t', rfl⟩ := ry
  exact rule i j t t' s _ _ ⟨.bl (g i j), H, I, rfl, q⟩
def CDiv (i j : Int) : Prop := 0 < j ∧ j < 1073741824
def CPow (i j : Int) : Prop := 0 ≤ j ∧ j ≤ 1000000 ∧ i.natAbs < 2 ^ 64
def CMul (i j : Int) : Prop := (-(2 ^ 64) < i ∧ i < 2 ^ 64) ∨ (-(2 ^ 64) < j ∧ j < 2 ^ 64)
theorem CMul.ok {i j : Int} (h : CMul i j) : IntMulOk i j := by
  rcases h with ⟨h1, h2⟩ | ⟨h1, h2⟩
  · exact .of_left (intBits_le_64 h1 h2)
  · exact .of_right (intBits_le_64 h1 h2)
theorem op_add : OpR X (binaryOp .Add) (rI0 fun i j => .int (i + j)) := opI0 fun _ _ _ _ _ _ _ q => add_int q
theorem op_sub : OpR X (binaryOp .Sub) (rI0 fun i j => .int (i - j)) := opI0 fun _ _ _ _ _ _ _ q => sub_int q
theorem op_mul : OpR X (binaryOp .Mult) (rI CMul fun i j => .int (i * j)) := opI fun _ _ _ _ _ _ _ hc q => mul_int q hc.ok
theorem op_fdiv : OpR X (binaryOp .FloorDiv) (rI CDiv fun i j => .int (i / j)) := opI fun i j _ _ _ _ _ hc q => by
  have h1 : (0 : Int) < j := hc.1
  have h2 : j < 1073741824 := hc.2
  exact floordiv_int (by omega) (by rw [Int.fdiv_eq_ediv_of_nonneg i (by omega)]; exact q) (.inl (PyProof.noPylong_small (by omega)))
theorem op_mod : OpR X (binaryOp .Mod) (rI (fun _ j => 0 < j) fun i j => .int (i % j)) := opI fun i j _ _ _ _ _ hc q => by
  have h1 : (0 : Int) < j := hc
  exact mod_int' (by omega) (by rw [Int.fmod_eq_emod_of_nonneg i (by omega)]; exact q)
theorem op_pow : OpR X (binaryOp .Pow) (rI CPow fun i j => .int (i ^ j.toNat)) := opI fun _ _ _ _ _ _ _ hc q => pow_int_small hc.1 hc.2.1 hc.2.2 q
theorem unI {f : Value → Sem Value} {g : Int → Int}
    (rule : ∀ (i : Int) (t : Tok) (s : Shared) (Q : Value → Shared → Prop) (E : Value → Shared → Prop), Q (.int (g i) s.toks) { s with toks := s.toks + 1 } → wpAny (model X.prog X.w) X.A (f (.int i t)) Q E s) :
    UnR X f (rU fun i => .int (g i)) := by
  intro pins s σ H x v Q I rx h
  obtain ⟨i, rfl, q⟩ := h
  obtain ⟨t, rfl⟩ := rx
  exact rule i t s _ _ ⟨.int (g i), H, I.tok _, ⟨_, rfl⟩, q⟩
theorem un_neg : UnR X (unaryOp .USub) (rU fun i => .int (-i)) := unI fun _ _ _ _ _ q => neg_int q
end
def scal : V → V → Bool
  | .non, .non => true | .non, .int _ => true | .int _, .non => true | .non, .bl _ => true | .bl _, .non => true | .non, .str _ => true | .str _, .non => true
  | .int _, .int _ => true | .bl _, .bl _ => true | .str _, .str _ => true | .byt _, .byt _ => true
  | .int _, .str _ => true | .str _, .int _ => true | .bl _, .str _ => true | .str _, .bl _ => true
  | _, _ => false
def rEq : R2 := fun x y H Q => scal x y = true ∧ Q (.bl (decide (x = y))) H
def rNe : R2 := fun x y H Q => scal x y = true ∧ Q (.bl (!decide (x = y))) H
theorem dec_int {i j : Int} : decide (V.int i = V.int j) = (i == j) := by
  rw [Bool.eq_iff_iff]
  simp
theorem dec_bl {i j : Bool} : decide (V.bl i = V.bl j) = (i == j) := by
  rw [Bool.eq_iff_iff]
  simp
theorem dec_str {i j : Str} : decide (V.str i = V.str j) = (i == j) := by
  rw [Bool.eq_iff_iff]
  simp
theorem dec_byt {i j : Array UInt8} : decide (V.byt i = V.byt j) = (i.toList == j.toList) := by
  rw [Bool.eq_iff_iff]
  cases i
  cases j
  simp
section
variable {X : Cx} {a b c : Expr} {ta tb tc : TE} {pos : Pos}
theorem fin_bl {pins : List (Addr × Obj)} {σ : St} {H : Hp} {s : Shared} {Q : VK} {k k' : Bool} (I : Inv X pins σ H s) (q : Q (.bl k) H) (e : k = k') : EP X pins σ Q (.bool k') s := by
  subst e
  exact ⟨.bl k, H, I, rfl, q⟩
theorem op_eq : OpR X (compareOp .Eq) rEq := by
  intro pins s σ H x y v u Q I rx ry h
  obtain ⟨hs, q⟩ := h
  cases x with
  | non =>
    cases rx
    cases y with
    | non => cases ry; exact PySem.EqNone.eq_none_none (fin_bl I q (by simp))
    | bl j => cases ry; exact PySem.EqNone.eq_none_bool (fin_bl I q (by simp))
    | int j => obtain ⟨t', rfl⟩ := ry; exact PySem.EqNone.eq_none_int (fin_bl I q (by simp))
    | str j => obtain ⟨t', rfl⟩ := ry; exact PySem.EqNone.eq_none_str (fin_bl I q (by simp))
    | _ => exact absurd (show false = true from hs) Bool.false_ne_true
  | bl i =>
    cases rx
    cases y with
    | non => cases ry; exact PySem.EqNone.eq_bool_none (fin_bl I q (by simp))
    | bl j => cases ry; exact eq_bool (fin_bl I q dec_bl)
    | str j => obtain ⟨t', rfl⟩ := ry; exact PySem.EqMixed.eq_bool_str (fin_bl I q (by simp))
    | _ => exact absurd (show false = true from hs) Bool.false_ne_true
  | int i =>
    obtain ⟨t, rfl⟩ := rx
    cases y with
    | non => cases ry; exact PySem.EqNone.eq_int_none (fin_bl I q (by simp))
    | int j => obtain ⟨t', rfl⟩ := ry; exact eq_int (fin_bl I q dec_int)
    | str j => obtain ⟨t', rfl⟩ := ry; exact PySem.EqMixed.eq_int_str (fin_bl I q (by simp))
    | _ => exact absurd (show false = true from hs) Bool.false_ne_true
  | str i =>
    obtain ⟨t, rfl⟩ := rx
    cases y with
    | non => cases ry; exact PySem.EqNone.eq_str_none (fin_bl I q (by simp))
    | bl j => cases ry; exact PySem.EqMixed.eq_str_bool (fin_bl I q (by simp))
    | int j => obtain ⟨t', rfl⟩ := ry; exact PySem.EqMixed.eq_str_int (fin_bl I q (by simp))
    | str j => obtain ⟨t', rfl⟩ := ry; exact eq_str (fin_bl I q dec_str)
    | _ => exact absurd (show false = true from hs) Bool.false_ne_true
  | byt i =>
    obtain ⟨t, rfl⟩ := rx
    cases y with
    | byt j => obtain ⟨t', rfl⟩ := ry; exact PySem.W.eq_bytes (fin_bl I q dec_byt)
    | _ => exact absurd (show false = true from hs) Bool.false_ne_true
  | _ => cases y <;> exact absurd (show false = true from hs) Bool.false_ne_true
theorem op_ne : OpR X (compareOp .NotEq) rNe := by
  intro pins s σ H x y v u Q I rx ry h
  obtain ⟨hs, q⟩ := h
  cases x with
  | non =>
    cases rx
    cases y with
    | non => cases ry; exact PySem.EqNone.ne_none_none (fin_bl I q (by simp))
    | bl j => cases ry; exact PySem.EqNone.ne_none_bool (fin_bl I q (by simp))
    | int j => obtain ⟨t', rfl⟩ := ry; exact PySem.EqNone.ne_none_int (fin_bl I q (by simp))
    | str j => obtain ⟨t', rfl⟩ := ry; exact PySem.EqNone.ne_none_str (fin_bl I q (by simp))
    | _ => exact absurd (show false = true from hs) Bool.false_ne_true
  | bl i =>
    cases rx
    cases y with
    | non => cases ry; exact PySem.EqNone.ne_bool_none (fin_bl I q (by simp))
    | bl j => cases ry; exact ne_bool (fin_bl I q (congrArg not dec_bl))
    | str j => obtain ⟨t', rfl⟩ := ry; exact PySem.EqMixed.ne_bool_str (fin_bl I q (by simp))
    | _ => exact absurd (show false = true from hs) Bool.false_ne_true
  | int i =>
    obtain ⟨t, rfl⟩ := rx
    cases y with
    | non => cases ry; exact PySem.EqNone.ne_int_none (fin_bl I q (by simp))
    | int j => obtain ⟨t', rfl⟩ := ry; exact ne_int (fin_bl I q (congrArg not dec_int))
    | str j => obtain ⟨t', rfl⟩ := ry; exact PySem.EqMixed.ne_int_str (fin_bl I q (by simp))
    | _ => exact absurd (show false = true from hs) Bool.false_ne_true
  | str i =>
    obtain ⟨t, rfl⟩ := rx
    cases y with
    | non => cases ry; exact PySem.EqNone.ne_str_none (fin_bl I q (by simp))
    | bl j => cases ry; exact PySem.EqMixed.ne_str_bool (fin_bl I q (by simp))
    | int j => obtain ⟨t', rfl⟩ := ry; exact PySem.EqMixed.ne_str_int (fin_bl I q (by simp))
    | str j => obtain ⟨t', rfl⟩ := ry; exact ne_str (fin_bl I q (congrArg not dec_str))
    | _ => exact absurd (show false = true from hs) Bool.false_ne_true
  | byt i =>
    obtain ⟨t, rfl⟩ := rx
    cases y with
    | byt j => obtain ⟨t', rfl⟩ := ry; exact PySem.W.ne_bytes (fin_bl I q (congrArg not dec_byt))
    | _ => exact absurd (show false = true from hs) Bool.false_ne_true
  | _ => cases y <;> exact absurd (show false = true from hs) Bool.false_ne_true
theorem op_lt : OpR X (compareOp .Lt) (rI0 fun i j => .bl (decide (i < j))) := opB0 fun _ _ _ _ _ _ _ q => lt_int q
theorem op_gt : OpR X (compareOp .Gt) (rI0 fun i j => .bl (decide (j < i))) := opB0 fun _ _ _ _ _ _ _ q => gt_int q
theorem op_ge : OpR X (compareOp .GtE) (rI0 fun i j => .bl (decide (j ≤ i))) := opB0 fun _ _ _ _ _ _ _ q => ge_int q
theorem op_in_str : OpR X (compareOp .In) (fun x y H Q => ∃ i j, x = .str i ∧ y = .str j ∧ Q (.bl (!(Builtin.Str.occurrences j i 0 j.length 1).isEmpty)) H) := by
  intro pins s σ H x y v u Q I rx ry h
  obtain ⟨i, j, rfl, rfl, q⟩ := h
  obtain ⟨t, rfl⟩ := rx
  obtain ⟨t', rfl⟩ := ry
  exact in_str (fin_bl I q rfl)
theorem op_isN : OpR X (compareOp .Is) (fun x y H Q => y = .non ∧ Q (.bl (decide (x = .non))) H) := by
  intro pins s σ H x y v u Q I rx ry h
  obtain ⟨rfl, q⟩ := h
  cases ry
  refine is_none_gen (fin_bl I q ?_)
  cases x <;> first
    | (cases rx; rfl)
    | (obtain ⟨t, rfl⟩ := rx; rfl)
theorem OpR.or {f : Value → Value → Sem Value} {r r' : R2} (h : OpR X f r) (h' : OpR X f r') : OpR X f (fun x y H Q => r x y H Q ∨ r' x y H Q) := by
  intro pins s σ H x y v u Q I rx ry q
  rcases q with q | q
  · exact h pins s σ H x y v u Q I rx ry q
  · exact h' pins s σ H x y v u Q I rx ry q
theorem nomark (b : Expr) {op : CmpOp} (h : op ≠ .In := by decide) (h2 : op ≠ .NotIn := by decide) : behindInMarks op b = false := by
  have e1 : (op == CmpOp.In) = false := by cases op <;> first | rfl | exact absurd rfl h
  have e2 : (op == CmpOp.NotIn) = false := by cases op <;> first | rfl | exact absurd rfl h2
  cases b <;> simp [behindInMarks, e1, e2]
theorem pe_cmpR {op : CmpOp} {r : R2} (ho : OpR X (compareOp op) r) (ha : PE X a ta) (hb : PE X b tb) (hm : behindInMarks op b = false) : PE X (.Compare a [op] [b] pos) (tOp r ta tb) := by
  intro pins s σ H Q I h
  exact wpAny_Compare1 (binT ha hb I h fun v u s2 x y H2 I2 rx ry q => ho pins s2 σ H2 x y v u Q I2 rx ry q) hm
def tTest (t : TE) : TT := fun σ H Q => t σ H fun x H' => ∃ k, x = .bl k ∧ Q k H'
theorem pt_cmpR {op : CmpOp} {r : R2} (ho : OpR X (compareOp op) r) (ha : PE X a ta) (hb : PE X b tb) (hm : behindInMarks op b = false) : PT X (.Compare a [op] [b] pos) (tTest (tOp r ta tb)) := by
  intro pins s σ H Q I h
  refine wpAny_isTrue_Compare1 (thn (ha pins s σ H _ I h) fun v s1 ⟨x, H1, I1, r1, q1⟩ => thn (hb pins s1 σ H1 _ I1 q1) fun u s2 ⟨y, H2, I2, r2, q2⟩ =>
    thn (ho pins s2 σ H2 x y v u _ I2 r1 r2 q2) fun c s3 ⟨z, H3, I3, r3, k, e, q3⟩ => ?_) hm
  subst e
  cases r3
  exact wpAny_truthy_bool ⟨H3, I3, q3⟩
def TruV (K : PySem.W.Frag) (x : V) (H : Hp) (k : Bool) : Prop :=
  match x with
  | .non => k = false
  | .bl b => k = b
  | .int i => k = (i != 0)
  | .str y => y.length ≤ sizeLine ∧ k = ((y.length : Int) != 0)
  | .byt y => y.size ≤ sizeLine ∧ k = ((y.size : Int) != 0)
  | .ref p => (∃ xs, SqL K H p xs ∧ k = !xs.isEmpty) ∨ (∃ xs, SqT K H p xs ∧ k = !xs.isEmpty) ∨ ∃ kvs, H p = some (.dK kvs) ∧ k = !kvs.isEmpty
  | _ => False
theorem isEmpty_kv {κ : Type} {kvs : List (κ × V)} {vs : List (κ × Value)} (r : KV kvs vs) : (!vs.isEmpty) = !kvs.isEmpty := by
  cases r <;> rfl
theorem isEmpty_of {xs : List V} {its : List Value} (r : Vals xs its) : (!its.toArray.isEmpty) = !xs.isEmpty := by
  cases r <;> simp
theorem line63 : (sizeLine : Nat) < 2 ^ 63 := by rw [sizeLine_eq]; decide
theorem tru_ok : TruR X (fun x H Q => ∃ k, TruV X.K x H k ∧ Q k H) := by
  intro pins s σ H x v Q I rx h
  obtain ⟨k, e, q⟩ := h
  have hl := line63
  have hs : sizeLine = 16777216 := sizeLine_eq
  cases x with
  | non =>
    cases rx
    have e' : k = false := e
    subst e'
    exact truthy_none ⟨H, I, q⟩
  | bl b =>
    cases rx
    have e' : k = b := e
    subst e'
    exact wpAny_truthy_bool ⟨H, I, q⟩
  | int i =>
    obtain ⟨t, rfl⟩ := rx
    have e' : k = (i != 0) := e
    subst e'
    exact PySem.P.truthy_int ⟨H, I, q⟩
  | str y =>
    obtain ⟨t, rfl⟩ := rx
    obtain ⟨hy, e'⟩ : y.length ≤ sizeLine ∧ k = ((y.length : Int) != 0) := e
    subst e'
    exact PySem.P.truthy_str (by omega) ⟨H, I.tok _, q⟩
  | byt y =>
    obtain ⟨t, rfl⟩ := rx
    obtain ⟨hy, e'⟩ : y.size ≤ sizeLine ∧ k = ((y.size : Int) != 0) := e
    subst e'
    exact PySem.W.truthy_bytes (by omega) ⟨H, I.tok _, q⟩
  | ref p =>
    cases rx
    have e' : (∃ xs, SqL X.K H p xs ∧ k = !xs.isEmpty) ∨ (∃ xs, SqT X.K H p xs ∧ k = !xs.isEmpty) ∨ ∃ kvs, H p = some (.dK kvs) ∧ k = !kvs.isEmpty := e
    rcases e' with ⟨xs, hx, e'⟩ | ⟨xs, hx, e'⟩ | ⟨kvs, hx, e'⟩
    · subst e'
      obtain ⟨its, r, pl, hz⟩ := I.list hx
      have hlen := r.length
      exact wpAny_truthy_list pl.isList (by simp only [List.size_toArray]; omega) ⟨H, I.tok _, by rw [isEmpty_of r]; exact q⟩
    · subst e'
      obtain ⟨its, r, pl, hz⟩ := I.tuple hx
      have hlen := r.length
      exact truthy_tuple pl (by simp only [List.size_toArray]; omega) ⟨H, I.tok _, by rw [isEmpty_of r]; exact q⟩
    · subst e'
      obtain ⟨hz, hS, vs, r, m⟩ : kvs.length ≤ sizeLine ∧ (p == sysModules) = false ∧ ∃ vs, KV kvs vs ∧ s.heap.DictOf (mixKind X.prog X.w) p vs := I.hok p _ hx
      have hlen : kvs.length = vs.length := Paired.length r
      exact wpAny_truthy_dict hS m (by omega) ⟨H, I.tok _, by rw [isEmpty_kv r]; exact q⟩
  | _ => exact (show False from e).elim
theorem pt_truth (ha : PE X a ta) (he : ∀ whole, isTrue a X.env whole = (do let v ← whole; standAt a.pos; holding [v] (truthy v))) :
    PT X a (fun σ H Q => ta σ H fun x H' => ∃ k, TruV X.K x H' k ∧ Q k H') := by
  intro pins s σ H Q I h
  exact isTrue_plain (thn (ha pins s σ H _ I h) fun v s1 ⟨x, H1, I1, r1, q1⟩ => tru_ok pins s1 σ H1 x v Q I1 r1 q1) (he _)
theorem op_add_str : OpR X (binaryOp .Add) (fun x y H Q => ∃ i j, x = .str i ∧ y = .str j ∧ i.length + j.length ≤ sizeLine ∧ Q (.str (i ++ j)) H) := by
  intro pins s σ H x y v u Q I rx ry h
  obtain ⟨i, j, rfl, rfl, hz, q⟩ := h
  obtain ⟨t, rfl⟩ := rx
  obtain ⟨t', rfl⟩ := ry
  exact add_str (fun t' tk => ⟨.str (i ++ j), H, I.tok _, ⟨_, rfl⟩, q⟩) hz
theorem vals1 {x : V} {us : List Value} (r : Vals [x] us) : ∃ u, us = [u] ∧ RelV x u := by
  cases r with
  | cons r1 r2 => cases r2; exact ⟨_, rfl, r1⟩
theorem call_abs : CallR X (.builtin "abs") (fun xs H Q => ∃ i, xs = [.int i] ∧ Q (.int (if i < 0 then -i else i)) H) := by
  intro pins s σ H xs us Q I r h
  obtain ⟨i, rfl, q⟩ := h
  obtain ⟨u, rfl, t, rfl⟩ := vals1 r
  exact call_abs_int fun u tk => ⟨.int (if i < 0 then -i else i), H, I.tok _, ⟨_, rfl⟩, q⟩
end
end L2
namespace L2
open PySem PySem.Spec PyProof.Rows
structure ObjM (h : Heap) (x dx C : Addr) (mA : Str → Option Value) : Prop where
  obj : h.get? x = some (PySem.W.instObj C dx)
  ns : h.Ns1 dx mA
  ne : dx ≠ x
theorem lookIn_ns {h : Heap} {dx : Addr} {mA : Str → Option Value} (n : h.Ns1 dx mA) : ∃ od, h.get? dx = some od ∧ ∀ name, PySem.W.lookIn name od = some (mA name) := by
  obtain ⟨o, es, ep, ho, hd, hk, _, hm⟩ := n
  refine ⟨o, ho, fun name => ?_⟩
  have e := hm name
  unfold nsFind findBy at e
  rw [← Array.find?_toList] at e
  unfold PySem.W.lookIn
  rw [hd]
  dsimp only
  split
  · rename_i y q
    rw [q] at e
    exact congrArg some e
  · rename_i q
    rw [q] at e
    have a : es.toList.any (·.refKey) = false := by
      rw [List.any_eq_false]
      intro y hy
      obtain ⟨z, t, hkey⟩ := hk y (Array.mem_toList_iff.mp hy)
      simp [DictEntry.refKey, hkey]
    have a' : ¬ es.toList.any (·.refKey) = true := by rw [a]; exact Bool.false_ne_true
    rw [if_neg a']
    exact congrArg some e
theorem ObjM.look {h : Heap} {x dx C : Addr} {mA : Str → Option Value} (I : ObjM h x dx C mA) : ∃ od, PySem.W.InstAt h x (PySem.W.instObj C dx) C (some od) ∧ ∀ name, PySem.W.lookIn name od = some (mA name) :=
  let ⟨od, ho, hl⟩ := lookIn_ns I.ns
  ⟨od, ⟨I.obj, rfl, rfl, ho⟩, hl⟩
section
variable {prog : Program} {w : World} {A : Around} {E : Value → Shared → Prop} {s : Shared} {K : PySem.W.Frag} {x dx C f : Addr} {mA : Str → Option Value} {name : Str} {v : Value}
end
theorem RelO.some_of {v : V} {o : Option Value} (r : RelO (some v) o) : ∃ u, o = some u ∧ RelV v u := by
  cases o with
  | none => exact (show False from r).elim
  | some u => exact ⟨u, rfl, r⟩
theorem handed_of {v : V} {u : Value} (r : RelV v u) : PySem.W.handedIn u = true := by
  cases v with
  | non => cases (show u = Value.none from r); rfl
  | bl b => cases (show u = Value.bool b from r); rfl
  | int i => obtain ⟨t, e⟩ := (show ∃ t, u = Value.int i t from r); cases e; rfl
  | str x => obtain ⟨t, e⟩ := (show ∃ t, u = Value.str x t from r); cases e; rfl
  | byt b => obtain ⟨t, e⟩ := (show ∃ t, u = Value.bytes b t from r); cases e; rfl
  | flt b => obtain ⟨t, e⟩ := (show ∃ t, u = Value.float b t from r); cases e; rfl
  | ref a => cases (show u = Value.ref a from r); rfl
  | ty n => cases (show u = Value.type n from r); rfl
section
variable {P : Program} {w : World} {H H' : Hp} {h h' : Heap} {a C dx : Addr} {fs fs' : List (Str × V)}
end
structure Cls (K : PySem.W.Frag) (C : Addr) : Prop where
  pg : PySem.W.plainGet K C Str.empty = true
  hd : PySem.W.hasDictIn K C = true
  po : PySem.W.plainOver K C = true
  sa : PySem.W.findIn K (.ref C) "__setattr__" = some (some (.builtin "object.__setattr__"))
theorem Cls.get {K : PySem.W.Frag} {C : Addr} (c : Cls K C) (f : Str) : PySem.W.plainGet K C f = true := c.pg
structure Con (K : PySem.W.Frag) (C : Addr) (f : Str) (v : V) (u : Value) : Prop where
  at_ : PySem.W.findIn K (.ref C) f = some (some u)
  rel : RelV v u
  get : PySem.W.specialIn K u "__get__" = some none
  cp : PySem.W.copiedNames.contains f = false
structure Meth (K : PySem.W.Frag) (C : Addr) (m : Str) (f : Addr) : Prop where
  at_ : PySem.W.findIn K (.ref C) m = some (some (.ref f))
  fn : PySem.W.isFn K (.ref f) = true
  kp : PySem.W.keepIn K (.ref f) = true
section
variable {X : Cx} {pins : List (Addr × Obj)} {σ : St} {H : Hp} {s : Shared} {a C dx : Addr} {fs : List (Str × V)} {f : Str} {v : V} {A : Around} {E : Value → Shared → Prop}
theorem attr_of {prog : Program} {w : World} {env : Env} {e : Expr} {f : Str} {pos : Pos} {s : Shared} {Q : Value → Shared → Prop} (hb : attributeBase e f env (eval e env) = eval e env)
    (h : wpAny (model prog w) A (eval e env) (fun o s₁ => wpAny (model prog w) A (getAttr o f true) Q E s₁) E s) : wpAny (model prog w) A (eval (.Attribute e f pos) env) Q E s :=
  Attribute_any_ h (by rw [arm_eval_Attribute, hb])
end
section
variable {X : Cx} {o e value : Expr} {f : Str} {pos pos' tpos : Pos} {ta tv : TE}
end
section
variable {X : Cx} {pins : List (Addr × Obj)} {σ : St} {H : Hp} {s : Shared} {A : Around} {E : Value → Shared → Prop} {Q : Value → Shared → Prop} {c : Value} {b : Bool}
inductive TyOf (K : PySem.W.Frag) (H : Hp) : V → Value → Prop where
  | non : TyOf K H .non (.type "NoneType")
  | bl (x : Bool) : TyOf K H (.bl x) (.type "bool")
  | int (i : Int) : TyOf K H (.int i) (.type "int")
  | str (x : Str) : TyOf K H (.str x) (.type "str")
  | flt (x : UInt64) : TyOf K H (.flt x) (.type "float")
  | lst {a : Addr} {xs : List V} (e : H a = some (.lst xs)) : TyOf K H (.ref a) (.type "list")
  | frz {a : Addr} {o : Obj} {xs : List V} (e : H a = some (.frz o (.lst xs))) : TyOf K H (.ref a) (.type "list")
  | tup {a : Addr} {xs : List V} (e : H a = some (.tup xs)) : TyOf K H (.ref a) (.type "tuple")
  | dK {a : Addr} {kvs : List (Key × V)} (e : H a = some (.dK kvs)) : TyOf K H (.ref a) (.type "dict")
  | dT {a : Addr} {kvs : List (List Key × V)} (e : H a = some (.dT kvs)) : TyOf K H (.ref a) (.type "dict")
  | ins {a C dx : Addr} {fs : List (Str × V)} (e : H a = some (.ins C dx fs)) (cl : Cls K C) (ha : PySem.W.findIn K (.ref C) "__class__" = some (some (.builtin "object.__class__")))
      (hn : PySem.W.specialIn K (.builtin "object.__class__") "__get__" = some (some (.builtin "getset_descriptor.__get__"))) (htk : PySem.W.takesIn K (.builtin "object.__class__") = some true)
      (hm : PySem.W.mroIn K C (.type "object") = some true) : TyOf K H (.ref a) (.ref C)
end
end L2
namespace L2
open PySem PySem.Spec PyProof.Rows
structure Room (k : Nat) (A : Around) : Prop where
  hd : A.handled = none
  dp : A.depth + 3 * k + 5 < recursionLimit
  un : A.units + 16 * k + 200 < cLine
theorem Room.mono {j k : Nat} {A : Around} (r : Room k A) (h : j ≤ k) : Room j A := ⟨r.hd, by have := r.dp; omega, by have := r.un; omega⟩
theorem Room.deeper {k : Nat} {A : Around} (r : Room (k + 1) A) (env : Env) : Room k (A.deeper env) :=
  ⟨r.hd, by have := r.dp; show A.depth + 1 + 3 * k + 5 < _; omega, by have := r.un; show A.units + 3 + 16 * k + 200 < _; omega⟩
theorem Room.in1 {k : Nat} {A : Around} (r : Room (k + 1) A) : Room k A.in1 :=
  ⟨r.hd, by have := r.dp; show A.depth + 3 * k + 5 < _; omega, by have := r.un; show A.units + 1 + 16 * k + 200 < _; omega⟩
theorem make_depth {A : Around} {C : Addr} {us : List Value} {kw : List (Str × Value)} : (A.under (.builtin "type.__call__" ⟨.ref C :: us, kw⟩)).depth = A.depth + 1 := by
  first | rfl | simp [Around.under, Code.weight, Code.isCreation, Code.isGuard, Code.isCaller, Code.frames, Code.isFrame, guardIds]
theorem make_units {A : Around} {C : Addr} {us : List Value} {kw : List (Str × Value)} : (A.under (.builtin "type.__call__" ⟨.ref C :: us, kw⟩)).units = A.units + 1 := by
  first | rfl | simp [Around.under, Code.cUnits, Code.frames, Code.isFrame]
theorem Room.make {k : Nat} {A : Around} (r : Room (k + 1) A) (C : Addr) (us : List Value) (kw : List (Str × Value)) : Room k (A.under (.builtin "type.__call__" ⟨.ref C :: us, kw⟩)) :=
  ⟨r.hd, by have := r.dp; rw [make_depth]; omega, by have := r.un; rw [make_units]; omega⟩
theorem Room.depth {k : Nat} {A : Around} (r : Room k A) : A.depth < recursionLimit := by have := r.dp; omega
theorem Room.units {k : Nat} {A : Around} (r : Room k A) : A.units + 64 < cLine := by have := r.un; omega
theorem Room.units0 {k : Nat} {A : Around} (r : Room k A) : A.units < cLine := by have := r.un; omega
def tNil : TA := fun _ H Q => Q [] H
def tCons (ta : TE) (tr : TA) : TA := fun σ H Q => ta σ H fun x H1 => tr σ H1 fun xs H2 => Q (x :: xs) H2
section
variable {X : Cx} {e : Expr} {es : List Expr} {te : TE} {t : TA} {pos : Pos}
theorem pa_nil : PA X [] tNil := fun _ _ _ _ H Q I h => Calls.spliced_nil ⟨[], H, I, .nil, h⟩
theorem pa_cons (ha : PE X e te) (hr : PA X es t) (hs : starEach (e :: es) X.env = (false, eval e X.env) :: starEach es X.env := by rfl) : PA X (e :: es) (tCons te t) := by
  intro pos pins s σ H Q I h
  rw [hs]
  show wpAny _ _ (spliced ((false, eval e X.env) :: backTo pos (starEach es X.env))) _ _ s
  refine Calls.spliced_cons (thn (ha pins s σ H _ I h) fun u s1 ⟨x, H1, I1, r1, q1⟩ => ?_)
  exact thn (hr pos pins s1 σ H1 _ I1 q1) fun us s2 ⟨xs, H2, I2, r2, q2⟩ => ⟨x :: xs, H2, I2, .cons r1 r2, q2⟩
def tTup (t : TA) : TE := fun σ H Q => t σ H fun xs H1 => xs.length ≤ sizeLine ∧ ∀ p, H1 p = none → Q (.ref p) (upd H1 p (.tup xs))
def tLst (t : TA) : TE := fun σ H Q => t σ H fun xs H1 => xs.length ≤ sizeLine ∧ ∀ p, H1 p = none → Q (.ref p) (upd H1 p (.lst xs))
theorem pe_tup {x1} (h : PA X es t) : PE X (.Tuple es x1 pos) (tTup t) := by
  intro pins s σ H Q I hq
  refine wpAny_Tuple_spliced (thn (h pos pins s σ H _ I hq) fun us s1 ⟨xs, H1, I1, r, z, q⟩ => ⟨by rw [← r.length]; exact z, ?_⟩)
  have hf : H1 s1.heap.objs.size = none := I1.hok.fresh (Nat.le_refl _)
  refine ⟨.ref s1.heap.objs.size, upd H1 s1.heap.objs.size (.tup xs), I1.laid (t' := s1.toks) (fun b u e => Heap.get?_push_of_some _ e) (Nat.le_refl _) ?_, rfl, q _ hf⟩
  exact ⟨z, us, r, ⟨_, Heap.get?_push_size _ rfl, rfl, _, rfl⟩⟩
theorem pe_lst (h : PA X es t) : PE X (.List es pos) (tLst t) := by
  intro pins s σ H Q I hq
  refine wpAny_List_spliced (thn (h pos pins s σ H _ I hq) fun us s1 ⟨xs, H1, I1, r, z, q⟩ => ⟨by rw [← r.length]; exact z, ?_⟩)
  have hf : H1 s1.heap.objs.size = none := I1.hok.fresh (Nat.le_refl _)
  refine ⟨.ref s1.heap.objs.size, upd H1 s1.heap.objs.size (.lst xs), I1.laid (t' := s1.toks) (fun b u e => Heap.get?_push_of_some _ e) (Nat.le_refl _) ?_, rfl, q _ hf⟩
  exact ⟨z, us, 0, r, Heap.get?_push_size _ rfl⟩
end
abbrev Sp := List V → Hp → VK → XK → Prop
abbrev CXT := List Env → Hp → Shared → XK → Value → Shared → Prop
structure Env0 (P : Program) (w : World) (K : PySem.W.Frag) (mg : Str → Option Value) (base : Heap) (A : Around) (outer : List Env) (s : Shared) (H : Hp) : Prop where
  frames : A.frames = some outer
  mod : Mod K mg base
  bs : ∀ b o, base.get? b = some o → s.heap.get? b = some o ∧ H b = none
  bsz : base.objs.size ≤ s.heap.objs.size
  funs : s.heap.FunFrames base outer
  frf : ∀ b ∈ frs outer, H b = none
  hok : HOk P w H s.heap
  bare : AllBare s.gens
def CE (outer : List Env) (P : Program) (w : World) (H : Hp) (s : Shared) (Q : VK) (u : Value) (s' : Shared) : Prop :=
  ∃ v H', s'.os = s.os ∧ AllBare s'.gens ∧ Un (frs outer) [] H H' s.heap s'.heap ∧ HOk P w H' s'.heap ∧ RelV v u ∧ Q v H'
def CR (CX : CXT) (outer : List Env) (P : Program) (w : World) (H : Hp) (s : Shared) (Q : VK) (E : XK) (r : Result) (s' : Shared) : Prop :=
  match r with
  | .ok (.ret u) => CE outer P w H s Q u s'
  | .ok _ => False
  | .error e => CX outer H s E e s'
structure FnOk (P : Program) (w : World) (K : PySem.W.Frag) (mg : Str → Option Value) (base : Heap) (CX : CXT) (k : Nat) (f : Addr) (fd : FuncData) (ps : List Str) (sp : Sp) : Prop where
  len : ∀ vs H Q E, sp vs H Q E → vs.length = ps.length
  run : ∀ (A : Around) (outer : List Env) (s : Shared) (H : Hp) (args : Args) (us : List Value) (vs : List V) (Q : VK) (E : XK), Room k A → Env0 P w K mg base A outer s H → BindsTo s fd args (ps.zip us) → Vals vs us → sp vs H Q E →
    codeAny (model P w) A (.call (.ref f) args) (CR CX outer P w H s Q E) s
theorem FnOk.mono {P : Program} {w : World} {K : PySem.W.Frag} {mg : Str → Option Value} {base : Heap} {CX : CXT} {j k : Nat} {f : Addr} {fd : FuncData} {ps : List Str} {sp : Sp} (F : FnOk P w K mg base CX j f fd ps sp) (h : j ≤ k) :
    FnOk P w K mg base CX k f fd ps sp := ⟨F.len, fun A outer s H args us vs Q E hr => F.run A outer s H args us vs Q E (hr.mono h)⟩
theorem FnOk.imp {P : Program} {w : World} {K : PySem.W.Frag} {mg : Str → Option Value} {base : Heap} {CX : CXT} {k : Nat} {f : Addr} {fd : FuncData} {ps : List Str} {sp sp' : Sp} (F : FnOk P w K mg base CX k f fd ps sp)
    (h : ∀ vs H Q E, sp' vs H Q E → sp vs H Q E) : FnOk P w K mg base CX k f fd ps sp' :=
  ⟨fun vs H Q E q => F.len vs H Q E (h _ _ _ _ q), fun A outer s H args us vs Q E hr he hb hv hs => F.run A outer s H args us vs Q E hr he hb hv (h _ _ _ _ hs)⟩
theorem Env0.make {P : Program} {w : World} {K : PySem.W.Frag} {mg : Str → Option Value} {base : Heap} {A : Around} {outer : List Env} {s : Shared} {H : Hp} (e : Env0 P w K mg base A outer s H) (C : Addr) (us : List Value) (kw : List (Str × Value)) :
    Env0 P w K mg base (A.under (.builtin "type.__call__" ⟨.ref C :: us, kw⟩)) outer s H := ⟨by first | exact e.frames | (simpa [Around.under, Code.envs, Code.isFrame, pushEnvs] using e.frames), e.mod, e.bs, e.bsz, e.funs, e.frf, e.hok, e.bare⟩
theorem Env0.in1 {P : Program} {w : World} {K : PySem.W.Frag} {mg : Str → Option Value} {base : Heap} {A : Around} {outer : List Env} {s : Shared} {H : Hp} (e : Env0 P w K mg base A outer s H) :
    Env0 P w K mg base A.in1 outer s H := ⟨e.frames, e.mod, e.bs, e.bsz, e.funs, e.frf, e.hok, e.bare⟩
section
variable {X : Cx} {pins : List (Addr × Obj)} {σ : St} {H : Hp} {s s' : Shared}
theorem Inv.env0 (I : Inv X pins σ H s) : Env0 X.prog X.w X.K X.mg X.base X.A X.stack s H :=
  ⟨I.ok.frames, I.ok.mod, I.bs, Nat.le_trans I.ok.bsz I.sz, I.stack, I.stkFree, I.hok, I.bare⟩
theorem Inv.after {Q : VK} {u : Value} (I : Inv X pins σ H s) (h : CE X.stack X.prog X.w H s Q u s') : EP X pins σ Q u s' := by
  obtain ⟨v, H', os, bare, un, hok, r, q⟩ := h
  obtain ⟨hh, g, d, t, os'⟩ := s'
  obtain rfl : os' = s.os := os
  exact ⟨v, H', I.call (h' := hh) (g' := g) (d' := d) (t' := t) (ch := []) un hok bare (fun b z => absurd z (by simp)), r, q⟩
end
def tCall (sp : Sp) (dvs : List V) (E : XK) (t : TA) : TE := fun σ H Q => t σ H fun vs H1 => sp (vs ++ dvs) H1 Q E
def Binds (K : PySem.W.Frag) (fd : FuncData) (ps : List Str) (ds : List Value) : Prop :=
  ∀ (s : Shared) (us : List Value), K.In s.heap → (us ++ ds).length = ps.length → BindsTo s fd ⟨us, []⟩ (ps.zip (us ++ ds))
theorem Binds.all {K : PySem.W.Frag} {fd : FuncData} {ps : List Str} (h : ∀ us : List Value, us.length = ps.length → bindArgs fd ⟨us, []⟩ = pure (ps.zip us)) : Binds K fd ps [] := fun s us _ hl => by
  rw [List.append_nil] at hl ⊢
  exact .of_eq (h us hl)
def Passes (CX : CXT) (X : Cx) (E : XK) : Prop := ∀ (pins : List (Addr × Obj)) (σ : St) (H : Hp) (s : Shared) (e : Value) (s' : Shared), Inv X pins σ H s → CX X.stack H s E e s' → X.xe e s'
section
variable {X : Cx} {CX : CXT} {k : Nat} {f C : Addr} {fd : FuncData} {ps : List Str} {sp : Sp} {dvs : List V} {ds : List Value} {E : XK} {x m : Str} {p pos apos : Pos} {e o : Expr} {es : List Expr} {ta : TE} {t : TA}
theorem run_fn {pins : List (Addr × Obj)} {σ : St} {H : Hp} {s : Shared} {Q : VK} {us : List Value} {vs : List V} (F : FnOk X.prog X.w X.K X.mg X.base CX k f fd ps sp) (hr : Room k X.A) (hb : Binds X.K fd ps ds) (hd : Vals dvs ds) (hx : Passes CX X E)
    (I : Inv X pins σ H s) (r : Vals vs us) (h : sp (vs ++ dvs) H Q E) : wpAny (model X.prog X.w) X.A (call (.ref f) us) (EP X pins σ Q) X.xe s := by
  have r2 : Vals (vs ++ dvs) (us ++ ds) := r.append hd
  have hl : (us ++ ds).length = ps.length := by rw [← r2.length]; exact F.len _ _ _ _ h
  refine wpAny_call (codeAny_mono (F.run X.A X.stack s H ⟨us, []⟩ (us ++ ds) (vs ++ dvs) Q E hr I.env0 (hb s us I.kIn hl) r2 h) fun r s' hq => ?_)
  cases r with
  | error e => exact hx pins σ H s e s' I hq
  | ok fl =>
    cases fl with
    | ret u => exact I.after hq
    | next => exact False.elim hq
    | brk => exact False.elim hq
    | cont => exact False.elim hq
theorem pe_call (F : FnOk X.prog X.w X.K X.mg X.base CX k f fd ps sp) (hr : Room k X.A) (hg : Gl X x) (hm : X.mg x = some (.ref f)) (hk : PySem.W.keepIn X.K (.ref f) = true) (hb : Binds X.K fd ps ds) (hd : Vals dvs ds) (hx : Passes CX X E)
    (ha : PA X (e :: es) t) (hdb : (x == ("__debug__" : Str)) = false := by decide) (he : starEach (e :: es) X.env = (false, eval e X.env) :: starEach es X.env := by rfl) (hpl : (backTo pos (starEach es X.env)).any (·.1) = false := by rfl) :
    PE X (.Call (.Name x p) (e :: es) [] pos) (tCall sp dvs E t) := by
  intro pins s σ H Q I h
  refine wpAny_Call_Name_kw (ld_glob I hg hm ?_ hdb)
  refine PySem.W.callWith_K (h₀ := X.base) I.ok.mod.kin hk (thn (ha pos pins s σ H _ I h) fun us s1 ⟨vs, H1, I1, r, q⟩ => ⟨I1.kIn, ?_⟩) he hpl
  exact run_fn F hr hb hd hx I1 r q
structure Mk (K : PySem.W.Frag) (C f : Addr) : Prop where
  makes : PySem.W.makesIn K C = true
  init : PySem.W.findIn K (.ref C) "__init__" = some (some (.ref f))
  fn : PySem.W.isFn K (.ref f) = true
  kp : PySem.W.keepIn K (.ref C) = true
end
section
variable {X : Cx} {CX : CXT} {k : Nat} {f C : Addr} {fd : FuncData} {ps ks : List Str} {sp : Sp} {E : XK} {x m : Str} {p pos apos kpos : Pos} {e o : Expr} {es : List Expr} {kws : List Keyword} {te ta : TE} {t tk : TA} {nm : Option Str}
structure KBinds (K : PySem.W.Frag) (fd : FuncData) (ps ks : List Str) (g : List Value → List Value → List Value) (gV : List V → List V → List V) : Prop where
  to : ∀ (s : Shared) (us ws : List Value), K.In s.heap → (g us ws).length = ps.length → BindsTo s fd ⟨us, ks.zip ws⟩ (ps.zip (g us ws))
  rel : ∀ {vs : List V} {us : List Value} {zs : List V} {ws : List Value}, Vals vs us → Vals zs ws → Vals (gV vs zs) (g us ws)
variable {g : List Value → List Value → List Value} {gV : List V → List V → List V}
end
structure FnScope (N P : List Str) (sc : Scope) : Prop where
  kind : sc.kind = .function
  co : sc.isCoroutine = false
  gen : sc.isGenerator = false
  nd : N.Nodup
  pre : N.take P.length = P
  par : ∀ x ∈ P, sc.names.lookup x = some .local ∨ sc.names.lookup x = some .cell
  nofree : ∀ y ∈ sc.names, y.2 ≠ .free
theorem bindL_out {kindOf : Str → Option NameKind} {x : Str} : ∀ {binds : List (Str × Value)} {m : Str → Option Value}, (∀ v, (x, v) ∉ binds) → bindL kindOf binds m x = m x
  | [], _, _ => rfl
  | (n, v) :: r, m, h => by
    unfold bindL
    rw [bindL_out fun w hw => h w (List.mem_cons_of_mem _ hw)]
    split
    · have : x ≠ n := by rintro rfl; exact h v List.mem_cons_self
      simp [this]
    · rfl
theorem bindC_out {kindOf : Str → Option NameKind} {x : Str} : ∀ {binds : List (Str × Value)} {m : Str → Option Value}, (∀ v, (x, v) ∉ binds) → bindC kindOf binds m x = m x
  | [], _, _ => rfl
  | (n, v) :: r, m, h => by
    unfold bindC
    rw [bindC_out fun w hw => h w (List.mem_cons_of_mem _ hw)]
    split
    · rfl
    · have : x ≠ n := by rintro rfl; exact h v List.mem_cons_self
      simp [this]
theorem bindL_get {kindOf : Str → Option NameKind} {x : Str} {v : Value} : ∀ {P : List Str} {vs : List Value} {i : Nat} {m : Str → Option Value}, P.Nodup → P[i]? = some x → vs[i]? = some v → kindOf x = some .local →
    bindL kindOf (P.zip vs) m x = some v
  | [], _, _, _, _, h, _, _ => by simp at h
  | _ :: _, [], _, _, _, _, h, _ => by simp at h
  | p :: P, w :: vs, 0, m, nd, h1, h2, hk => by
    simp at h1 h2; subst h1; subst h2
    show bindL kindOf ((p, w) :: P.zip vs) m p = _
    unfold bindL
    rw [bindL_out fun v hv => (List.nodup_cons.mp nd).1 (List.of_mem_zip hv).1, if_pos hk]
    simp
  | p :: P, w :: vs, i + 1, m, nd, h1, h2, hk => by
    show bindL kindOf ((p, w) :: P.zip vs) m x = _
    unfold bindL
    exact bindL_get (i := i) (List.nodup_cons.mp nd).2 (by simpa using h1) (by simpa using h2) hk
theorem bindC_get {kindOf : Str → Option NameKind} {x : Str} {v : Value} : ∀ {P : List Str} {vs : List Value} {i : Nat} {m : Str → Option Value}, P.Nodup → P[i]? = some x → vs[i]? = some v → kindOf x ≠ some .local →
    bindC kindOf (P.zip vs) m x = some v
  | [], _, _, _, _, h, _, _ => by simp at h
  | _ :: _, [], _, _, _, _, h, _ => by simp at h
  | p :: P, w :: vs, 0, m, nd, h1, h2, hk => by
    simp at h1 h2; subst h1; subst h2
    show bindC kindOf ((p, w) :: P.zip vs) m p = _
    unfold bindC
    rw [bindC_out fun v hv => (List.nodup_cons.mp nd).1 (List.of_mem_zip hv).1, if_neg hk]
    simp
  | p :: P, w :: vs, i + 1, m, nd, h1, h2, hk => by
    show bindC kindOf ((p, w) :: P.zip vs) m x = _
    unfold bindC
    exact bindC_get (i := i) (List.nodup_cons.mp nd).2 (by simpa using h1) (by simpa using h2) hk
def start (N : List Str) (vs : List V) : St := vs.map some ++ List.replicate (N.length - vs.length) none
def cxOf (CX : CXT) (P : Program) (w : World) (K : PySem.W.Frag) (mg : Str → Option Value) (base : Heap) (N : List Str) (qual : Str) (scope : Scope) (f : Addr) (cd : Value) (A : Around) (outer : List Env) (s : Shared) (H : Hp) (E : XK) : Cx where
  prog := P
  w := w
  K := K
  mg := mg
  base := base
  A := A.deeper (envOfC qual scope s.heap.objs.size f cd)
  N := N
  s₀ := s
  H₀ := H
  env := envOfC qual scope s.heap.objs.size f cd
  outer := outer
  stack := envOfC qual scope s.heap.objs.size f cd :: outer
  ex := []
  calm := true
  fn := fun _ => true
  pn := []
  xe := fun e s' => wpAny (model P w) (A.deeper (envOfC qual scope s.heap.objs.size f cd)) (leaving (envOfC qual scope s.heap.objs.size f cd) e) (fun _ s'' => CX outer H s E e s'') (fun e' s'' => CX outer H s E e' s'') s'
theorem cell_has {sc : Scope} {n : Nat} {x : Str} (h : sc.names.lookup x = some .cell) : ∃ c, (cellsFrom n sc.names []).lookup x = some c := by
  have q := PySem.W.cellsFrom_some sc.names n [] (.inl h)
  exact Option.isSome_iff_exists.mp q
theorem inv_start {CX : CXT} {P : Program} {w : World} {K : PySem.W.Frag} {mg : Str → Option Value} {base : Heap} {N ps : List Str} {qual : Str} {scope : Scope} {f : Addr} {cd : Value} {A : Around} {outer : List Env} {s s1 : Shared} {H : Hp} {E : XK} {us : List Value} {vs : List V}
    (S : FnScope N ps scope) (hd : A.handled = none) (e0 : Env0 P w K mg base A outer s H) (hl : vs.length = ps.length) (r : Vals vs us)
    (x : InCallC s s.heap.objs.size (bindL (envOfC qual scope s.heap.objs.size f cd).kindOf (ps.zip us) fun _ => none) (cellsFrom (s.heap.objs.size + 1) scope.names []) (bindC (envOfC qual scope s.heap.objs.size f cd).kindOf (ps.zip us) fun _ => none) s1) :
    Inv (cxOf CX P w K mg base N qual scope f cd A outer s H E) [] (start N vs) H s1 := by
  have hpl : ps.length ≤ N.length := by have := congrArg List.length S.pre; rw [List.length_take] at this; omega
  obtain ⟨h1, tk, rfl, hk⟩ := x.done
  have noA : ∀ b : Addr, b ∉ (cxOf CX P w K mg base N qual scope f cd A outer s H E).ex := fun b z => absurd (show b ∈ ([] : List Addr) from z) (by simp)
  refine ⟨⟨e0.mod, S.kind, rfl, rfl, Nat.le_refl _, fun y z c h1 h2 => ?_, fun y hy => ?_, fun y c _ h => ?_, fun _ => hd, Around.frames_deeper e0.frames, .inr ⟨rfl, rfl⟩, fun b z => absurd z (noA b), e0.bs, e0.bsz, fun b _ _ => noA b, fun b z => absurd z (noA b), e0.funs, e0.frf⟩,
    rfl, e0.bare, Un.kept hk, ⟨_, x.toInCall.ns, fun i y v h1 h2 h3 => ?_⟩, fun y c h => ⟨_, x.cell y c h⟩, e0.hok.fresh (Nat.le_refl _), fun y c h => ?_, fun p hp => absurd (show p ∈ ([] : List (Addr × Obj)) from hp) (by simp), e0.hok.kept hk, ?_⟩
  · exact name_of_addr x.apart (PySem.mem_of_lookup h1) (PySem.mem_of_lookup h2)
  · have hy : scope.names.lookup y = some .cell ∨ scope.names.lookup y = some .free := hy
    rcases hy with hy | hy
    · exact cell_has hy
    · exact absurd rfl (S.nofree _ (PySem.mem_of_lookup hy))
  · exact Nat.le_of_lt (x.above y c (PySem.mem_of_lookup h))
  · have hi : i < vs.length := by
      unfold start at h2
      by_cases hi : i < vs.length
      · exact hi
      · rw [List.getElem?_append_right (by simpa using hi)] at h2
        rw [List.getElem?_replicate] at h2
        split at h2 <;> cases h2
    have ha : vs[i]? = some v := by
      unfold start at h2
      rw [List.getElem?_append_left (by simpa using hi), List.getElem?_map] at h2
      cases e : vs[i]? with
      | none => rw [e] at h2; cases h2
      | some a => rw [e] at h2; cases h2; rfl
    obtain ⟨u, hu, rv⟩ := r.get ha
    have hp : ps[i]? = some y := by
      rw [← S.pre, List.getElem?_take_of_lt (by omega)]; exact h1
    have ndP : ps.Nodup := by rw [← S.pre]; exact S.nd.sublist (List.take_sublist _ _)
    refine ⟨u, rv, ?_⟩
    rcases S.par y (List.mem_of_getElem? hp) with k | k
    · exact .inl ⟨k, bindL_get ndP hp hu k⟩
    · obtain ⟨c, e⟩ := cell_has (n := s.heap.objs.size + 1) k
      refine .inr ⟨.inl k, c, e, ?_⟩
      have q := x.cell y c e
      rw [bindC_get ndP hp hu (by show scope.names.lookup y ≠ _; rw [k]; decide)] at q
      exact q
  · exact e0.hok.fresh (Nat.le_of_lt (x.above y c (PySem.mem_of_lookup h)))
  · unfold start
    show _ = N.length
    rw [List.length_append, List.length_map, List.length_replicate]
    omega
theorem fn_of {CX : CXT} {P : Program} {w : World} {K : PySem.W.Frag} {mg : Str → Option Value} {base : Heap} {k : Nat} {f : Addr} {name qual : Str} {params : Arguments} {body : List Stmt} {scope : Scope} {dV kV doc pm cdv ct oc : Value} {an od : Option Addr}
    {osl : Array (Option Value)} {N ps : List Str} {sp : Sp} (lk : K.lookup f = some ⟨oc, od, .func (PySem.W.fnOf name qual params body scope dV kV doc pm an cdv ct), osl⟩) (hcd : PySem.W.codeIn K cdv qual = true) (S : FnScope N ps scope)
    (len : ∀ vs H Q E, sp vs H Q E → vs.length = ps.length)
    (hbody : ∀ (A : Around) (outer : List Env) (s : Shared) (H : Hp) (vs : List V) (Q : VK) (E : XK), Room k (A.deeper (envOfC qual scope s.heap.objs.size f cdv)) → sp vs H Q E →
      ∃ t, PSs (cxOf CX P w K mg base N qual scope f cdv A outer s H E) body t ∧ t { nx := fun _ H' => Q .non H', rt := Q } (start N vs) H) :
    FnOk P w K mg base CX (k + 1) f (PySem.W.fnOf name qual params body scope dV kV doc pm an cdv ct) ps sp := by
  refine ⟨len, fun A outer s H args us vs Q E hr e0 hb r hsp => ?_⟩
  have hl := len _ _ _ _ hsp
  have KX : K.In s.heap := e0.mod.kin.keeps fun b o e => (e0.bs b o e).1
  have lim : s.heap.NoLimit := e0.mod.nolimit.keeps fun b o e => (e0.bs b o e).1
  have hkind : ∀ y ∈ ps.zip us, scope.names.lookup y.1 = some .local ∨ (scope.names.lookup y.1 = some .cell ∧ ((cellsFrom (s.heap.objs.size + 1) scope.names []).lookup y.1).isSome = true) := fun ⟨n, v⟩ hy => by
    rcases S.par n (List.of_mem_zip hy).1 with q | q
    · exact .inl q
    · exact .inr ⟨q, PySem.W.cellsFrom_some _ _ _ (.inl q)⟩
  refine codeAny_call_function hr.depth (KX _ _ lk) rfl S.co S.gen rfl (PySem.W.codeRec_of KX hcd) (hb _ _ _ _ ?_)
  refine wpAny_newFunctionEnv_cells S.kind hkind fun env he s1 x => ?_
  subst he
  refine ⟨lim.keeps x.toInCall.keep, codeAny_func ?_⟩
  obtain ⟨t, ht, hq⟩ := hbody A outer s H vs Q E (hr.deeper _) hsp
  have I : Inv (cxOf CX P w K mg base N qual scope f cdv A outer s H E) [] (start N vs) H s1 := inv_start S hr.hd e0 hl r x
  refine wpAny_mono (ht [] s1 (start N vs) H _ I hq) (fun fl s' hs => ?_) fun e s' hs => hs
  have fin : ∀ {σ' : St} {H' : Hp} {v : V} {u : Value}, Inv (cxOf CX P w K mg base N qual scope f cdv A outer s H E) [] σ' H' s' → RelV v u → Q v H' → CE outer P w H s Q u s' :=
    fun {σ' H' v u} J rv q => ⟨v, H', J.os, J.bare, J.base, J.hok, rv, q⟩
  cases fl with
  | ret u =>
    obtain ⟨v, σ', H', J, rv, q⟩ := hs
    exact fin J rv q
  | next =>
    obtain ⟨σ', H', J, q⟩ := hs
    exact fin (v := V.non) (u := Value.none) J rfl q
  | brk =>
    obtain ⟨_, _, _, q⟩ := hs
    exact False.elim q
  | cont =>
    obtain ⟨_, _, _, q⟩ := hs
    exact False.elim q
end L2
namespace L2
open PySem PySem.Spec PyProof.Rows
section
variable {X : Cx} {x : Str} {p pos : Pos} {e : Expr} {es : List Expr} {t : TA} {id T : String} {r : List V → Hp → VK → Prop}
def tCB (r : List V → Hp → VK → Prop) (t : TA) : TE := fun σ H Q => t σ H fun vs H1 => r vs H1 Q
theorem pe_callB (hc : CallR X (.builtin id) r) (hg : Gl X x) (hm : X.mg x = none) (hv : bootBuiltins x = some (.builtin id)) (ha : PA X (e :: es) t) (hn : x ≠ "__name__" := by decide) (hdb : (x == ("__debug__" : Str)) = false := by decide)
    (he : starEach (e :: es) X.env = (false, eval e X.env) :: starEach es X.env := by rfl) (hpl : (backTo pos (starEach es X.env)).any (·.1) = false := by rfl) : PE X (.Call (.Name x p) (e :: es) [] pos) (tCB r t) := by
  intro pins s σ H Q I h
  refine wpAny_Call_Name_kw (ld_blt I hg hm hv ?_ hn hdb)
  exact PyProof.Rows.callWith_builtin1 (thn (ha pos pins s σ H _ I h) fun us s1 ⟨vs, H1, I1, r1, q1⟩ => hc pins s1 σ H1 vs us Q I1 r1 q1) he hpl
theorem pe_callTy (hc : CallR X (.type T) r) (hg : Gl X x) (hm : X.mg x = none) (hv : bootBuiltins x = some (.type T)) (ha : PA X (e :: es) t) (hn : x ≠ "__name__" := by decide) (hdb : (x == ("__debug__" : Str)) = false := by decide)
    (he : starEach (e :: es) X.env = (false, eval e X.env) :: starEach es X.env := by rfl) (hpl : (backTo pos (starEach es X.env)).any (·.1) = false := by rfl) : PE X (.Call (.Name x p) (e :: es) [] pos) (tCB r t) := by
  intro pins s σ H Q I h
  refine wpAny_Call_Name_kw (ld_blt I hg hm hv ?_ hn hdb)
  exact PyProof.Rows.callWith_type1 (thn (ha pos pins s σ H _ I h) fun us s1 ⟨vs, H1, I1, r1, q1⟩ => hc pins s1 σ H1 vs us Q I1 r1 q1) he hpl
end
end L2
namespace HT
open PySem PyProof.Rows
section
open PySem.SeqAt
open PySem.AutoSeq1 (wpAny_loadPart')
open PySem.MeetsSeq PySem.MeetsSeq2 PySem.MeetsSeq3
end
section
variable {prog : Program} {w : World} {A : Around} {E : Value → Shared → Prop} {s : Shared}
def sIx (n d : Nat) : Option Int → Nat
  | none => d
  | some v => if v < 0 then (v + (n : Int)).toNat else min v.toNat n
end
end HT
namespace L2
open PySem PySem.Spec PyProof.Rows
abbrev TO := St → Hp → (Option Int → Hp → Prop) → Prop
def PO (X : Cx) (e : Option Expr) (t : TO) : Prop :=
  ∀ (pins : List (Addr × Obj)) (s : Shared) (σ : St) (H : Hp) (Q : Option Int → Hp → Prop), Inv X pins σ H s → t σ H Q →
    wpAny (model X.prog X.w) X.A (evalPart e X.env) (fun u s' => ∃ o H', Inv X pins σ H' s' ∧ IsPart u o ∧ Q o H') X.xe s
def tNoPart : TO := fun _ H Q => Q none H
def tPart (t : TE) : TO := fun σ H Q => t σ H fun x H1 => ∃ i, x = .int i ∧ Q (some i) H1
section
variable {X : Cx} {e : Expr} {te : TE} {lo hi : Option Expr} {tl th : TO} {pos p2 : Pos}
theorem po_none : PO X none tNoPart := by
  intro pins s σ H Q I h
  rw [evalPart_none]
  exact wpAny_pure ⟨none, H, I, .none, h⟩
theorem po_some (h : PE X e te) : PO X (some e) (tPart te) := by
  intro pins s σ H Q I hw
  rw [evalPart_some]
  refine thn (h pins s σ H _ I hw) fun u s1 ⟨x, H1, I1, r1, q1⟩ => ?_
  obtain ⟨i, rfl, q⟩ := q1
  obtain ⟨t, rfl⟩ := r1
  exact ⟨some i, H1, I1, .int i t, q⟩
def SlR (X : Cx) (r : V → Option Int → Option Int → Hp → VK → Prop) : Prop :=
  ∀ (pins : List (Addr × Obj)) (s : Shared) (σ : St) (H : Hp) (x : V) (v vl vu : Value) (lo hi : Option Int) (sl : Addr) (Q : VK), Inv X pins σ H s → RelV x v → s.heap.IsSliceOf sl vl vu .none → IsPart vl lo → IsPart vu hi → r x lo hi H Q →
    ∃ T id, typeLookup (.type T) "__getitem__" = pure (some (.builtin id)) ∧ s.TypeIs v T ∧ wpAny (model X.prog X.w) X.A (getItem v (.ref sl)) (EP X pins σ Q) X.xe s
theorem SlR.or {r r' : V → Option Int → Option Int → Hp → VK → Prop} (h : SlR X r) (h' : SlR X r') : SlR X (fun x lo hi H Q => r x lo hi H Q ∨ r' x lo hi H Q) := by
  intro pins s σ H x v vl vu lo hi sl Q I rx hs pl pu q
  rcases q with q | q
  · exact h pins s σ H x v vl vu lo hi sl Q I rx hs pl pu q
  · exact h' pins s σ H x v vl vu lo hi sl Q I rx hs pl pu q
def tSl (r : V → Option Int → Option Int → Hp → VK → Prop) (te : TE) (tl th : TO) : TE := fun σ H Q => te σ H fun x H1 => tl σ H1 fun l H2 => th σ H2 fun u H3 => r x l u H3 Q
theorem pe_slice {r : V → Option Int → Option Int → Hp → VK → Prop} (hr : SlR X r) (he : PE X e te) (hl : PO X lo tl) (hu : PO X hi th) : PE X (.Subscript e (.Slice lo hi none p2) pos) (tSl r te tl th) := by
  intro pins s σ H Q I h
  refine Subscript_ (thn (he pins s σ H _ I h) fun v s1 ⟨x, H1, I1, r1, q1⟩ => ?_)
  refine wpAny_Slice (thn (hl pins s1 σ H1 _ I1 q1) fun vl s2 ⟨l, H2, I2, pl, q2⟩ => thn (hu pins s2 σ H2 _ I2 q2) fun vu s3 ⟨u, H3, I3, pu, q3⟩ => ?_)
  rw [evalPart_none]
  refine wpAny_pure ?_
  have I4 : Inv X pins σ H3 { s3 with heap := s3.heap.push { cls := .type "slice", data := .fields #[vl, vu, .none] } } := I3.kept (t' := s3.toks) fun b ob q => Heap.get?_push_of_some _ q
  obtain ⟨T, id, hT, ht, hg⟩ := hr pins { s3 with heap := s3.heap.push { cls := .type "slice", data := .fields #[vl, vu, .none] } } σ H3 x v vl vu l u s3.heap.objs.size Q I4 r1 (Heap.IsSliceOf.new ..) pl pu q3
  show wpAny (model X.prog X.w) X.A (subscriptTail e (.Slice lo hi none p2) v (.ref s3.heap.objs.size)) (EP X pins σ Q) X.xe { s3 with heap := s3.heap.push { cls := .type "slice", data := .fields #[vl, vu, .none] } }
  exact tail_any (ops := [.ref s3.heap.objs.size, v]) ht hT hg (by with_unfolding_all rfl)
def cutV (xs : List V) (lo hi : Option Int) : List V := (xs.drop (HT.sIx xs.length 0 lo)).take (HT.sIx xs.length xs.length hi - HT.sIx xs.length 0 lo)
theorem cutV_length (xs : List V) (lo hi : Option Int) : (cutV xs lo hi).length ≤ xs.length := by
  unfold cutV
  rw [List.length_take, List.length_drop]
  omega
end
end L2
namespace L2
open PySem PySem.Spec PyProof.Rows
def ixN (n : Nat) (i : Int) : Option Nat := if 0 ≤ i then (if i < n then some i.toNat else none) else if -(n : Int) ≤ i then some (i + n).toNat else none
def atI {α : Type} (xs : List α) (i : Int) : Option α := (ixN xs.length i).bind fun j => xs[j]?
theorem ixN_seq {n : Nat} {i : Int} {j : Nat} (h : ixN n i = some j) : seqIndex? i n = some j ∧ j < n ∧ -(n : Int) ≤ i ∧ i < n := by
  unfold ixN at h
  by_cases h0 : 0 ≤ i
  · rw [if_pos h0] at h
    by_cases h1 : i < n
    · rw [if_pos h1] at h
      have e : i.toNat = j := Option.some.inj h
      exact ⟨by rw [seqIndex_of h0 h1, e], by omega, by omega, h1⟩
    · rw [if_neg h1] at h; cases h
  · rw [if_neg h0] at h
    by_cases h1 : -(n : Int) ≤ i
    · rw [if_pos h1] at h
      have e : (i + n).toNat = j := Option.some.inj h
      exact ⟨by rw [seqIndex_neg (by omega) h1, e], by omega, h1, by omega⟩
    · rw [if_neg h1] at h; cases h
theorem atI_get {α : Type} {xs : List α} {i : Int} {v : α} (h : atI xs i = some v) : ∃ j, seqIndex? i xs.length = some j ∧ xs[j]? = some v ∧ j < xs.length ∧ -(xs.length : Int) ≤ i ∧ i < xs.length := by
  unfold atI at h
  cases e : ixN xs.length i with
  | none => rw [e] at h; cases h
  | some j =>
    rw [e] at h
    obtain ⟨h1, h2, h3, h4⟩ := ixN_seq e
    exact ⟨j, h1, h, h2, h3, h4⟩
theorem atI_nat {α : Type} {xs : List α} {j : Nat} {v : α} (h : xs[j]? = some v) : atI xs (j : Int) = some v := by
  have hj : j < xs.length := (List.getElem?_eq_some_iff.mp h).1
  have e : ixN xs.length (j : Int) = some j := by
    unfold ixN
    rw [if_pos (by omega), if_pos (by omega)]; simp
  unfold atI; rw [e]; exact h
def PlainIx (b : Expr) : Prop := ∀ o i, subscripted b false o i = operate [o, i] (getItem o i)
def IxR (X : Cx) (r : R2) : Prop :=
  ∀ (value slice : Expr) (pins : List (Addr × Obj)) (s : Shared) (σ : St) (H : Hp) (x y : V) (v u : Value) (Q : VK), Inv X pins σ H s → RelV x v → RelV y u → r x y H Q →
    subscripted slice false v u = operate [v, u] (getItem v u) → wpAny (model X.prog X.w) X.A (subscriptTail value slice v u) (EP X pins σ Q) X.xe s
def MtR (X : Cx) (id : String) (r : V → List V → Hp → VK → Prop) : Prop :=
  ∀ (pins : List (Addr × Obj)) (s : Shared) (σ : St) (H : Hp) (x : V) (xs : List V) (v : Value) (us : List Value) (Q : VK), Inv X pins σ H s → RelV x v → Vals xs us → r x xs H Q →
    wpAny (model X.prog X.w) X.A (call (.builtin id) (v :: us)) (EP X pins σ Q) X.xe s
section
variable {X : Cx} {a b : Expr} {ta tb : TE} {pos : Pos}
theorem IxR.or {r r' : R2} (h : IxR X r) (h' : IxR X r') : IxR X (fun x y H Q => r x y H Q ∨ r' x y H Q) := by
  intro value slice pins s σ H x y v u Q I rx ry q hs
  rcases q with q | q
  · exact h value slice pins s σ H x y v u Q I rx ry q hs
  · exact h' value slice pins s σ H x y v u Q I rx ry q hs
theorem MtR.or {id : String} {r r' : V → List V → Hp → VK → Prop} (h : MtR X id r) (h' : MtR X id r') : MtR X id (fun x xs H Q => r x xs H Q ∨ r' x xs H Q) := by
  intro pins s σ H x xs v us Q I rx rs q
  rcases q with q | q
  · exact h pins s σ H x xs v us Q I rx rs q
  · exact h' pins s σ H x xs v us Q I rx rs q
theorem pe_ix {r : R2} (hr : IxR X r) (ha : PE X a ta) (hb : PE X b tb) (hs : PlainIx b) : PE X (.Subscript a b pos) (tOp r ta tb) := by
  intro pins s σ H Q I h
  exact Subscript_ (binT ha hb I h fun v u s2 x y H2 I2 rx ry q => hr a b pins s2 σ H2 x y v u Q I2 rx ry q (hs _ _))
def rIxL (K : PySem.W.Frag) : R2 := fun x y H Q => ∃ p xs i v, x = .ref p ∧ y = .int i ∧ SqL K H p xs ∧ atI xs i = some v ∧ Q v H
def rIxT (K : PySem.W.Frag) : R2 := fun x y H Q => ∃ p xs i v, x = .ref p ∧ y = .int i ∧ SqT K H p xs ∧ atI xs i = some v ∧ Q v H
def rIxS : R2 := fun x y H Q => ∃ z i c, x = .str z ∧ y = .int i ∧ z.length ≤ sizeLine ∧ atI z.cps.toList i = some c ∧ Q (.str ⟨#[c]⟩) H
theorem ix_list : IxR X (rIxL X.K) := by
  intro value slice pins s σ H x y v u Q I rx ry h hs
  obtain ⟨p, xs, i, z, rfl, rfl, hq, he, q⟩ := h
  cases rx
  obtain ⟨t, rfl⟩ := ry
  obtain ⟨its, r, pl, hz⟩ := I.list hq
  obtain ⟨j, h1, h2, h3, h4, h5⟩ := atI_get he
  obtain ⟨w, ew, rw'⟩ := r.get h2
  have hl := r.length
  have hn := line63
  have fin : EP X pins σ Q w s := ⟨z, H, I, rw', q⟩
  by_cases h0 : 0 ≤ i
  · have hj : i.toNat = j := by
      rw [seqIndex_of h0 h5] at h1
      exact Option.some.inj h1
    exact item_listR pl.isList h0 (by omega) (by rw [hj]; simpa using ew) fin hs
  · have hj : (i + (its.toArray.size : Int)).toNat = j := by
      rw [seqIndex_neg (by omega) h4] at h1
      rw [List.size_toArray, ← hl]
      exact Option.some.inj h1
    exact subscriptTail_builtinR (x := w) pl.isList.typeIs slot_list_getitem.lookup
      (wpAny_getItem_list_neg (Q := fun r s' => r = w ∧ EP X pins σ Q r s') pl.isList (by omega) (by rw [List.size_toArray] <;> omega) (by omega) (by rw [hj]; simpa using ew) ⟨rfl, fin⟩) hs
theorem ix_tup : IxR X (rIxT X.K) := by
  intro value slice pins s σ H x y v u Q I rx ry h hs
  obtain ⟨p, xs, i, z, rfl, rfl, hq, he, q⟩ := h
  cases rx
  obtain ⟨t, rfl⟩ := ry
  obtain ⟨its, r, pl, hz⟩ := I.tuple hq
  obtain ⟨j, h1, h2, h3, h4, h5⟩ := atI_get he
  obtain ⟨w, ew, rw'⟩ := r.get h2
  have hl := r.length
  have hn := line63
  have fin : EP X pins σ Q w s := ⟨z, H, I, rw', q⟩
  exact subscriptTail_builtinR (x := w) pl.typeIs slot_tuple_getitem.lookup
    (getItem_tuple (j := j) (Q := fun r s' => r = w ∧ EP X pins σ Q r s') pl (by omega) (by omega) (by rw [List.size_toArray, ← hl]; exact h1) (by simpa using ew) ⟨rfl, fin⟩) hs
theorem ix_str : IxR X rIxS := by
  intro value slice pins s σ H x y v u Q I rx ry h hs
  obtain ⟨z, i, c, rfl, rfl, hz, he, q⟩ := h
  obtain ⟨t, rfl⟩ := rx
  obtain ⟨t', rfl⟩ := ry
  obtain ⟨j, h1, h2, h3, h4, h5⟩ := atI_get he
  have hl : z.cps.toList.length = z.length := by simp [Str.length]
  rw [hl] at h1 h4 h5
  have hn := line63
  exact tail_any (typeIs_str s z t) slot_str_getitem.lookup (getItem_str (c := c) (by
    have e1 : decide (i < -(2 ^ 63 : Int)) = false := decide_eq_false (by omega)
    have e2 : decide (i ≥ 2 ^ 63) = false := decide_eq_false (by omega)
    rw [e1, e2, Bool.or_false]) (by rw [h1]; simpa using h2) ⟨.str ⟨#[c]⟩, H, I.tok _, ⟨_, rfl⟩, q⟩) hs
def rIx (K : PySem.W.Frag) : R2 := fun x y H Q => rIxL K x y H Q ∨ rIxT K x y H Q ∨ rIxS x y H Q
theorem ix_seq : IxR X (rIx X.K) := ix_list.or (ix_tup.or ix_str)
theorem mapSeq_set (its : List Value) (n j : Nat) (u : Value) : Obj.mapSeq (·.setIfInBounds j u) { cls := .type "list", data := .seq its.toArray n } = { cls := .type "list", data := .seq (its.set j u).toArray n } := by
  simp [Obj.mapSeq]
theorem Inv.lst {pins : List (Addr × Obj)} {σ : St} {H : Hp} {s : Shared} {p : Addr} {xs : List V} (I : Inv X pins σ H s) (h : H p = some (.lst xs)) :
    ∃ (its : List Value) (n : Nat), Vals xs its ∧ s.heap.get? p = some { cls := .type "list", data := .seq its.toArray n } ∧ xs.length ≤ sizeLine := by
  obtain ⟨z, its, n, r, e⟩ := I.hok p _ h
  exact ⟨its, n, r, e, z⟩
theorem Inv.lstUpd {pins : List (Addr × Obj)} {σ : St} {H : Hp} {s : Shared} {p : Addr} {xs ys : List V} {its its' : List Value} {n n' : Nat} {f : Obj → Obj} (I : Inv X pins σ H s) (h : H p = some (.lst xs))
    (ho : s.heap.get? p = some { cls := .type "list", data := .seq its.toArray n }) (hf : f { cls := .type "list", data := .seq its.toArray n } = { cls := .type "list", data := .seq its'.toArray n' }) (r : Vals ys its') (hz : ys.length ≤ sizeLine) (t : Nat) :
    Inv X pins σ (upd H p (.lst ys)) { s with heap := s.heap.update p f, toks := t } := by
  have e : (s.heap.update p f).get? p = some { cls := .type "list", data := .seq its'.toArray n' } := by
    rw [Heap.get?_update_self f ho (by rw [hf] <;> rfl), hf]
  refine I.write (x := p) (e := p) (by rw [h]; trivial) (.inl rfl) (fun b u hb q => (Heap.get?_update_other _ _ (Ne.symm hb)).trans q) ⟨_, e⟩ ?_
  exact ⟨hz, its', n', r, e⟩
def rSetL : V → V → V → Hp → (Hp → Prop) → Prop := fun o i v H Q => ∃ p xs k j, o = .ref p ∧ i = .int k ∧ H p = some (.lst xs) ∧ ixN xs.length k = some j ∧ Q (upd H p (.lst (xs.set j v)))
theorem set_list : PSet X rSetL := by
  intro pins s σ H o i v ov iv u Q I ro ri rv h
  obtain ⟨p, xs, k, j, rfl, rfl, hp, hj, q⟩ := h
  cases ro
  obtain ⟨t, rfl⟩ := ri
  obtain ⟨its, n, r, ho, hz⟩ := I.lst hp
  obtain ⟨h1, h2, h3, h4⟩ := ixN_seq hj
  have hl := r.length
  have hn := line63
  have I' : Inv X pins σ (upd H p (.lst (xs.set j v))) { s with heap := s.heap.update p (Obj.mapSeq (·.setIfInBounds j u)) } :=
    I.lstUpd hp ho (mapSeq_set its n j u) (r.set rv j) (by rw [List.length_set]; exact hz) s.toks
  by_cases h0 : 0 ≤ k
  · have hk : k.toNat = j := by
      rw [seqIndex_of h0 h4] at h1
      exact Option.some.inj h1
    exact PySem.W.ki_setAt ho h0 (by omega) (by rw [List.size_toArray, ← hl]; exact h4) (by rw [hk]; exact ⟨_, I', q⟩)
  · have hk : (k + (its.toArray.size : Int)).toNat = j := by
      rw [seqIndex_neg (by omega) h3] at h1
      rw [List.size_toArray, ← hl]
      exact Option.some.inj h1
    exact PySem.W.ki_setBack ho (by omega) (by rw [List.size_toArray, ← hl]; exact h3) (by omega) (by rw [hk]; exact ⟨_, I', q⟩)
theorem slice_bounds (lo hi : Option Int) (n : Nat) : (sliceBounds lo hi none n).1 = ((HT.sIx n 0 lo : Nat) : Int) ∧ (sliceBounds lo hi none n).2.1 = ((HT.sIx n n hi : Nat) : Int) ∧ (sliceBounds lo hi none n).2.2 = 1 := by
  refine ⟨?_, ?_, rfl⟩
  · cases lo with
    | none => simp [sliceBounds, HT.sIx]
    | some i =>
      simp only [sliceBounds, HT.sIx, Option.getD_none, show (1 : Int) > 0 by decide, if_true]
      by_cases h : i < 0
      · simp only [h, if_true] <;> omega
      · simp only [h, if_false] <;> omega
  · cases hi with
    | none => simp [sliceBounds, HT.sIx]
    | some i =>
      simp only [sliceBounds, HT.sIx, Option.getD_none, show (1 : Int) > 0 by decide, if_true]
      by_cases h : i < 0
      · simp only [h, if_true] <;> omega
      · simp only [h, if_false] <;> omega
theorem slicePick_cut (its : List Value) (lo hi : Option Int) : slicePick its.toArray lo hi none = ((its.drop (HT.sIx its.length 0 lo)).take (HT.sIx its.length its.length hi - HT.sIx its.length 0 lo)).toArray := by
  obtain ⟨h1, h2, h3⟩ := slice_bounds lo hi its.toArray.size
  unfold slicePick
  rw [h1, h2, h3]
  simp only [sliceRange_one, pick_run, List.size_toArray] <;> rfl
def rSlL (K : PySem.W.Frag) : V → Option Int → Option Int → Hp → VK → Prop := fun x lo hi H Q => ∃ a xs, x = .ref a ∧ SqL K H a xs ∧ ∀ p, H p = none → Q (.ref p) (upd H p (.lst (cutV xs lo hi)))
theorem sl_list : SlR X (rSlL X.K) := by
  intro pins s σ H x v vl vu lo hi sl Q I rx hs pl pu h
  obtain ⟨a, xs, rfl, hx, q⟩ := h
  cases rx
  obtain ⟨its, r, ht, hz⟩ := I.list hx
  have hlen := r.length
  refine ⟨"list", _, slot_list_getitem.lookup, ht.isList.typeIs, ?_⟩
  refine wpAny_getItem_list_slice ht.isList hs pl pu .none (by simp) ?_ (by rw [List.size_toArray] <;> omega)
  rw [slicePick_cut, ← hlen]
  refine ⟨.ref s.heap.objs.size, _, I.laid (t' := s.toks) (o := .lst (cutV xs lo hi)) (fun b ob q => Heap.get?_push_of_some _ q) (Nat.le_refl _) ?_, rfl, q _ (I.hok.fresh (Nat.le_refl _))⟩
  exact ⟨Nat.le_trans (cutV_length xs lo hi) hz, _, 0, (r.drop (HT.sIx xs.length 0 lo)).take (HT.sIx xs.length xs.length hi - HT.sIx xs.length 0 lo), Heap.get?_push_size _ rfl⟩
def flatV : V → Bool
  | .non => true
  | .bl _ => true
  | .int _ => true
  | .str _ => true
  | _ => false
def eqV : V → V → Bool
  | .non, .non => true
  | .bl a, .bl b => a == b
  | .bl a, .int b => (if a then 1 else 0) == b
  | .int a, .bl b => a == (if b then 1 else 0)
  | .int a, .int b => a == b
  | .str a, .str b => a == b
  | _, _ => false
theorem eqAt_V {A : Around} {s : Shared} {y x : V} {u v : Value} (ry : RelV y u) (rx : RelV x v) (fy : flatV y = true) (fx : flatV x = true) : SeqAt.EqAt A s u v (eqV y x) := by
  cases y with
  | non =>
    cases ry
    cases x with
    | non => cases rx; exact SeqAt.EqAt.same _
    | bl b => cases rx; exact SeqAt.EqAt.none_bool b
    | int b => obtain ⟨t, rfl⟩ := rx; exact SeqAt.EqAt.none_int b t
    | str b => obtain ⟨t, rfl⟩ := rx; exact SeqAt.EqAt.none_str b t
    | _ => exact absurd (show false = true from fx) Bool.false_ne_true
  | bl a =>
    cases ry
    cases x with
    | non => cases rx; exact SeqAt.EqAt.bool_none a
    | bl b => cases rx; exact SeqAt.EqAt.bool_bool a b
    | int b => obtain ⟨t, rfl⟩ := rx; exact SeqAt.EqAt.bool_int a b t
    | str b => obtain ⟨t, rfl⟩ := rx; exact SeqAt.EqAt.bool_str a b t
    | _ => exact absurd (show false = true from fx) Bool.false_ne_true
  | int a =>
    obtain ⟨t', rfl⟩ := ry
    cases x with
    | non => cases rx; exact SeqAt.EqAt.int_none a t'
    | bl b => cases rx; exact SeqAt.EqAt.int_bool a t' b
    | int b => obtain ⟨t, rfl⟩ := rx; exact SeqAt.EqAt.int_int a t' b t
    | str b => obtain ⟨t, rfl⟩ := rx; exact SeqAt.EqAt.int_str a t' b t
    | _ => exact absurd (show false = true from fx) Bool.false_ne_true
  | str a =>
    obtain ⟨t', rfl⟩ := ry
    cases x with
    | non => cases rx; exact SeqAt.EqAt.str_none a t'
    | bl b => cases rx; exact SeqAt.EqAt.str_bool a t' b
    | int b => obtain ⟨t, rfl⟩ := rx; exact SeqAt.EqAt.str_int a t' b t
    | str b => obtain ⟨t, rfl⟩ := rx; exact SeqAt.EqAt.str_str a t' b t
    | _ => exact absurd (show false = true from fx) Bool.false_ne_true
  | _ => exact absurd (show false = true from fy) Bool.false_ne_true
def eqU (x : V) (u : Value) : Bool := match u with
  | .none => eqV .non x
  | .bool b => eqV (.bl b) x
  | .int i _ => eqV (.int i) x
  | .str z _ => eqV (.str z) x
  | _ => false
theorem eqU_of {x y : V} {u : Value} (r : RelV y u) (f : flatV y = true) : eqU x u = eqV y x := by
  cases y with
  | non => cases r; rfl
  | bl b => cases r; rfl
  | int i => obtain ⟨t, rfl⟩ := r; rfl
  | str z => obtain ⟨t, rfl⟩ := r; rfl
  | _ => exact absurd (show false = true from f) Bool.false_ne_true
theorem any_eqU {x : V} : ∀ {xs : List V} {us : List Value}, Vals xs us → xs.all flatV = true → us.any (eqU x) = xs.any fun y => eqV y x
  | _, _, .nil, _ => rfl
  | y :: xs, u :: us, .cons r t, f => by
    rw [List.all_cons, Bool.and_eq_true] at f
    rw [List.any_cons, List.any_cons, eqU_of r f.1, any_eqU t f.2]
theorem mem_eqAt {A : Around} {s : Shared} {x : V} {v : Value} (rx : RelV x v) (fx : flatV x = true) : ∀ {xs : List V} {us : List Value}, Vals xs us → xs.all flatV = true → ∀ u ∈ us, SeqAt.EqAt A s u v (eqU x u)
  | _, _, .nil, _ => fun u hu => by cases hu
  | y :: xs, u :: us, .cons r t, f => fun u' hu => by
    rw [List.all_cons, Bool.and_eq_true] at f
    rcases List.mem_cons.mp hu with rfl | hu
    · rw [eqU_of r f.1]; exact eqAt_V r rx f.1 fx
    · exact mem_eqAt rx fx t f.2 u' hu
def inV (x : V) (xs : List V) : Bool := xs.any fun y => eqV y x
def rIn (K : PySem.W.Frag) (neg : Bool) : R2 := fun x y H Q => ∃ p xs, y = .ref p ∧ (SqL K H p xs ∨ SqT K H p xs) ∧ flatV x = true ∧ xs.all flatV = true ∧ Q (.bl (if neg then !inV x xs else inV x xs)) H
theorem op_in_seq : OpR X (compareOp .In) (rIn X.K false) := by
  intro pins s σ H x y v u Q I rx ry h
  obtain ⟨p, xs, rfl, hq, fx, fs, q⟩ := h
  cases ry
  rcases hq with hq | hq
  · obtain ⟨its, r, pl, hz⟩ := I.list hq
    refine SeqAt.in_listAt (eqU x) pl.isList (fun w hw => mem_eqAt rx fx r fs w (by simpa using hw)) ⟨.bl _, H, I, rfl, ?_⟩
    rw [show its.toArray.any (eqU x) = its.any (eqU x) by simp, any_eqU r fs]
    exact q
  · obtain ⟨its, r, pl, hz⟩ := I.tuple hq
    refine SeqAt.in_tupleAt (eqU x) pl (fun w hw => mem_eqAt rx fx r fs w (by simpa using hw)) ⟨.bl _, H, I, rfl, ?_⟩
    rw [show its.toArray.any (eqU x) = its.any (eqU x) by simp, any_eqU r fs]
    exact q
theorem op_notIn_seq : OpR X (compareOp .NotIn) (rIn X.K true) := by
  intro pins s σ H x y v u Q I rx ry h
  obtain ⟨p, xs, rfl, hq, fx, fs, q⟩ := h
  cases ry
  rcases hq with hq | hq
  · obtain ⟨its, r, pl, hz⟩ := I.list hq
    refine SeqAt.notIn_listAt (eqU x) pl.isList (fun w hw => mem_eqAt rx fx r fs w (by simpa using hw)) ⟨.bl _, H, I, rfl, ?_⟩
    rw [show its.toArray.any (eqU x) = its.any (eqU x) by simp, any_eqU r fs]
    exact q
  · obtain ⟨its, r, pl, hz⟩ := I.tuple hq
    refine SeqAt.notIn_tupleAt (eqU x) pl (fun w hw => mem_eqAt rx fx r fs w (by simpa using hw)) ⟨.bl _, H, I, rfl, ?_⟩
    rw [show its.toArray.any (eqU x) = its.any (eqU x) by simp, any_eqU r fs]
    exact q
theorem call_len_seq : CallR X (.builtin "len") (fun xs H Q => ∃ p ys, xs = [.ref p] ∧ (SqL X.K H p ys ∨ SqT X.K H p ys) ∧ Q (.int ys.length) H) := by
  intro pins s σ H xs us Q I r h
  obtain ⟨p, ys, rfl, hq, q⟩ := h
  obtain ⟨u, rfl, rx⟩ := vals1 r
  cases rx
  have hn := line63
  rcases hq with hq | hq
  · obtain ⟨its, r', pl, hz⟩ := I.list hq
    have hlen := r'.length
    exact Calls.call_len_list pl.isList (by simp only [List.size_toArray] <;> omega) ⟨.int ys.length, H, I.tok _, ⟨s.toks + 1, by rw [List.size_toArray, hlen]⟩, q⟩
  · obtain ⟨its, r', pl, hz⟩ := I.tuple hq
    have hlen := r'.length
    exact len_tuple pl (by simp only [List.size_toArray] <;> omega) ⟨.int ys.length, H, I.tok _, ⟨s.toks + 1, by rw [List.size_toArray, hlen]⟩, q⟩
theorem call_len_str : CallR X (.builtin "len") (fun xs H Q => ∃ z, xs = [.str z] ∧ z.length ≤ sizeLine ∧ Q (.int z.length) H) := by
  intro pins s σ H xs us Q I r h
  obtain ⟨z, rfl, hz, q⟩ := h
  obtain ⟨u, rfl, t, rfl⟩ := vals1 r
  have hn := line63
  exact len_str (by omega) ⟨.int z.length, H, I.tok _, ⟨_, rfl⟩, q⟩
theorem CallR.or {f : Value} {r r' : List V → Hp → VK → Prop} (h : CallR X f r) (h' : CallR X f r') : CallR X f (fun xs H Q => r xs H Q ∨ r' xs H Q) := by
  intro pins s σ H xs us Q I rs q
  rcases q with q | q
  · exact h pins s σ H xs us Q I rs q
  · exact h' pins s σ H xs us Q I rs q
theorem call_list_of : CallR X (.type "list") (fun xs H Q => ∃ p ys, xs = [.ref p] ∧ (SqL X.K H p ys ∨ SqT X.K H p ys) ∧ ∀ l, H l = none → Q (.ref l) (upd H l (.lst ys))) := by
  intro pins s σ H xs us Q I r h
  obtain ⟨p, ys, rfl, hq, q⟩ := h
  obtain ⟨u, rfl, rx⟩ := vals1 r
  cases rx
  have fin : ∀ (its : List Value), Vals ys its → ys.length ≤ sizeLine → ∀ (h' : Heap) (c' : Nat), (∀ b o', s.heap.get? b = some o' → h'.get? b = some o') →
      h'.get? s.heap.objs.size = some { cls := .type "list", dict := none, data := .seq its.toArray c', slots := #[] } → EP X pins σ Q (.ref s.heap.objs.size) { s with heap := h' } := fun its r' hz h' c' kp e =>
    ⟨.ref s.heap.objs.size, _, I.laid (t' := s.toks) kp (Nat.le_refl _) (show ObjOk X.prog X.w _ h' _ (.lst ys) from ⟨hz, its, c', r', e⟩), rfl, q _ (I.hok.fresh (Nat.le_refl _))⟩
  rcases hq with hq | hq
  · obtain ⟨its, r', pl, hz⟩ := I.list hq
    have hlen := r'.length
    obtain ⟨o, ho, hc, n, hd⟩ := pl.isList
    exact call_list_seq p (.inl rfl) ho hc hd (fun h' c' kp e => fin its r' hz h' c' kp e) (by simp only [List.size_toArray] <;> omega)
  · obtain ⟨its, r', pl, hz⟩ := I.tuple hq
    have hlen := r'.length
    obtain ⟨o, ho, hc, n, hd⟩ := pl
    exact call_list_seq p (.inr rfl) ho hc hd (fun h' c' kp e => fin its r' hz h' c' kp e) (by simp only [List.size_toArray] <;> omega)
theorem call_tuple_of : CallR X (.type "tuple") (fun xs H Q => ∃ p ys, xs = [.ref p] ∧ ((SqL X.K H p ys ∧ ∀ l, H l = none → Q (.ref l) (upd H l (.tup ys))) ∨ (SqT X.K H p ys ∧ Q (.ref p) H))) := by
  intro pins s σ H xs us Q I r h
  obtain ⟨p, ys, rfl, h⟩ := h
  obtain ⟨u, rfl, rx⟩ := vals1 r
  cases rx
  rcases h with ⟨hq, q⟩ | ⟨hq, q⟩
  · obtain ⟨its, r', pl, hz⟩ := I.list hq
    have hlen := r'.length
    refine call_tuple_list pl.isList (fun h' kp => ?_) (by simp only [List.size_toArray] <;> omega)
    have I1 : Inv X pins σ H { s with heap := h' } := I.kept (t' := s.toks) kp
    have I2 : Inv X pins σ (upd H h'.objs.size (.tup ys)) { s with heap := h'.push { cls := .type "tuple", data := .seq its.toArray } } :=
      I1.laid (t' := s.toks) (fun b o e => Heap.get?_push_of_some _ e) (Nat.le_refl _) (show ObjOk X.prog X.w _ _ _ (.tup ys) from ⟨hz, its, r', IsTup.new _ _⟩)
    exact ⟨.ref h'.objs.size, _, I2, rfl, q _ (I1.hok.fresh (Nat.le_refl _))⟩
  · obtain ⟨its, r', pl, hz⟩ := I.tuple hq
    exact call_tuple_same pl ⟨.ref p, H, I, rfl, q⟩
def tyV (K : PySem.W.Frag) (T : String) (x : V) (H : Hp) : Prop := match x with
  | .str _ => T = "str"
  | .int _ => T = "int"
  | .ref p => (T = "list" ∧ ∃ xs, SqL K H p xs) ∨ (T = "tuple" ∧ ∃ o, K.lookup p = some o ∧ o.cls = .type "tuple" ∧ o.dict = none) ∨
      (T = "dict" ∧ ((∃ kvs, H p = some (.dK kvs)) ∨ ∃ kvs, H p = some (.dT kvs))) ∨ (T = "set" ∧ ∃ S n, H p = some (.set S n))
  | _ => False
theorem tyV_is {pins : List (Addr × Obj)} {σ : St} {H : Hp} {s : Shared} {T : String} {x : V} {v : Value} (I : Inv X pins σ H s) (r : RelV x v) (ty : tyV X.K T x H) :
    s.TypeIs v T ∧ ∀ a, v = .ref a → ∃ ob, s.heap.get? a = some ob ∧ ob.dict = none := by
  cases x with
  | str z =>
    obtain ⟨t, rfl⟩ := r
    cases (show T = "str" from ty)
    exact ⟨typeIs_str s z t, fun _ e => nomatch e⟩
  | int i =>
    obtain ⟨t, rfl⟩ := r
    cases (show T = "int" from ty)
    exact ⟨typeIs_int s i t, fun _ e => nomatch e⟩
  | ref p =>
    cases r
    rcases ty with ⟨rfl, xs, hq⟩ | ⟨rfl, o, hk, hc, hd⟩ | ⟨rfl, hk⟩ | ⟨rfl, S, n, hk⟩
    · obtain ⟨its, _, pl, _⟩ := I.list hq
      refine ⟨pl.isList.typeIs, fun a e => ?_⟩
      cases e
      obtain ⟨o, n, e, c, hd, _⟩ := pl
      exact ⟨o, e, hd⟩
    · refine ⟨⟨o, I.kIn p o hk, hc⟩, fun a e => ?_⟩
      cases e
      exact ⟨o, I.kIn _ o hk, hd⟩
    · have z : ∃ o, s.heap.get? p = some o ∧ o.ExactDict := by
        rcases hk with ⟨kvs, hk⟩ | ⟨kvs, hk⟩
        · obtain ⟨_, _, _, _, o, _, _, e, ex, _⟩ := I.hok p _ hk
          exact ⟨o, e, ex⟩
        · obtain ⟨_, _, _, _, o, _, _, e, ex, _⟩ := I.hok p _ hk
          exact ⟨o, e, ex⟩
      obtain ⟨o, e, ex⟩ := z
      refine ⟨⟨o, e, ex.1⟩, fun a e2 => ?_⟩
      cases e2
      exact ⟨o, e, ex.2.1⟩
    · obtain ⟨o, _, _, _, e, ex, _⟩ := I.hok p _ hk
      refine ⟨⟨o, e, ex.1⟩, fun a e2 => ?_⟩
      cases e2
      exact ⟨o, e, ex.2.1⟩
  | _ => exact False.elim ty
def tBM0 (K : PySem.W.Frag) (T : String) (r : V → List V → Hp → VK → Prop) (to : TE) : TE := fun σ H Q => to σ H fun x H1 => tyV K T x H1 ∧ r x [] H1 Q
def tBM (K : PySem.W.Frag) (T : String) (r : V → List V → Hp → VK → Prop) (to : TE) (t : TA) : TE := fun σ H Q => to σ H fun x H1 => tyV K T x H1 ∧ t σ H1 fun xs H2 => r x xs H2 Q
variable {o e : Expr} {es : List Expr} {to : TE} {t : TA} {name : Str} {apos cpos : Pos} {T id : String} {r : V → List V → Hp → VK → Prop}
theorem pe_bm0 (pa : PlainAttrs T) (slot : Slot T name id) (hty : typeOf (.builtin id) = pure (.type "method_descriptor")) (hm : MtR X id r) (ho : PE X o to)
    (hbase : attributeBase o name X.env (eval o X.env) = eval o X.env := by rfl) (hline : (apos.endLine == cpos.line) = true := by rfl) : PE X (.Call (.Attribute o name apos) [] [] cpos) (tBM0 X.K T r to) := by
  intro pins s σ H Q I h
  refine wpAny_Call_method0_late hbase hline (thn (ho pins s σ H _ I h) fun v s1 ⟨x, H1, I1, r1, ty, q1⟩ => ?_)
  obtain ⟨h1, h2⟩ := tyV_is I1 r1 ty
  exact ⟨T, id, pa, slot, hty, h1, h2, Calls.callWith_builtin rfl (PySem.evalArgs_none (hm pins s1 σ H1 x [] v [] Q I1 r1 .nil q1))⟩
theorem pe_bm (pa : PlainAttrs T) (slot : Slot T name id) (hty : typeOf (.builtin id) = pure (.type "method_descriptor")) (hm : MtR X id r) (ho : PE X o to) (ha : PA X (e :: es) t)
    (hbase : attributeBase o name X.env (eval o X.env) = eval o X.env := by rfl)
    (hfew : ((backTo cpos (starEach (e :: es) X.env)).all (fun x => !x.1) && (backToKw cpos (keywordEach [] X.env)).all (fun x => x.1.isSome)
      && decide ((e :: es).length + ([] : List Keyword).length + (if ([] : List Keyword).isEmpty then 0 else 1) < 30)) = true := by rfl)
    (hline : (apos.endLine == cpos.line) = true := by rfl) (hs : starEach (e :: es) X.env = (false, eval e X.env) :: starEach es X.env := by rfl) (hplain : (backTo cpos (starEach es X.env)).any (·.1) = false := by rfl) :
    PE X (.Call (.Attribute o name apos) (e :: es) [] cpos) (tBM X.K T r to t) := by
  intro pins s σ H Q I h
  refine wpAny_Call_method_late hbase hfew hline rfl (thn (ho pins s σ H _ I h) fun v s1 ⟨x, H1, I1, r1, ty, q1⟩ => ?_)
  obtain ⟨h1, h2⟩ := tyV_is I1 r1 ty
  refine ⟨T, id, pa, slot, hty, h1, h2, ?_⟩
  have hA := ha cpos pins s1 σ H1 _ I1 q1
  rw [hs] at hA ⊢
  refine Calls.callWith_builtin (by show (false || (backTo cpos (starEach es X.env)).any (·.1)) = false; rw [hplain] <;> rfl) (Calls.evalArgs_plain ?_)
  exact thn hA fun us s2 ⟨vs, H2, I2, r2, q2⟩ => hm pins s2 σ H2 x vs v us Q I2 r1 r2 q2
end
end L2
namespace L2
open PySem PySem.Spec PyProof.Rows
def MtM (X : Cx) (id : String) (r : V → List V → Hp → VK → Prop) : Prop :=
  ∀ (pins : List (Addr × Obj)) (s : Shared) (σ : St) (H : Hp) (x : V) (xs : List V) (v : Value) (us : List Value) (Q : VK), Inv X pins σ H s → RelV x v → Vals xs us → r x xs H Q →
    wpAny (model X.prog X.w) X.A (call (.builtin id) (v :: us)) (EP X pins σ Q) X.xe s
theorem Vals.one : ∀ {x : V} {us : List Value}, Vals [x] us → ∃ u, us = [u] ∧ RelV x u
  | _, _, .cons r .nil => ⟨_, rfl, r⟩
theorem Vals.two : ∀ {x y : V} {us : List Value}, Vals [x, y] us → ∃ u v, us = [u, v] ∧ RelV x u ∧ RelV y v
  | _, _, _, .cons r (.cons q .nil) => ⟨_, _, rfl, r, q⟩
theorem Vals.zero : ∀ {us : List Value}, Vals [] us → us = []
  | _, .nil => rfl
theorem Vals.dropLast {xs : List V} {us : List Value} (h : Vals xs us) : Vals xs.dropLast us.dropLast := by
  induction h with
  | nil => exact .nil
  | cons r t ih =>
    cases t with
    | nil => exact .nil
    | cons q t' => exact .cons r ih
theorem Vals.eraseIdx : ∀ {xs : List V} {us : List Value} (i : Nat), Vals xs us → Vals (xs.eraseIdx i) (us.eraseIdx i)
  | _, _, _, .nil => .nil
  | _, _, 0, .cons _ t => t
  | _, _, i + 1, .cons r t => .cons r (Vals.eraseIdx i t)
theorem Vals.reverse {xs : List V} {us : List Value} (h : Vals xs us) : Vals xs.reverse us.reverse := by
  induction h with
  | nil => exact .nil
  | cons r t ih => rw [List.reverse_cons, List.reverse_cons]; exact Vals.append ih (.cons r .nil)
theorem erase_last {α : Type} (l : List α) : l.eraseIdx (l.length - 1) = l.dropLast := by
  induction l with
  | nil => rfl
  | cons a r ih =>
    cases r with
    | nil => rfl
    | cons b r =>
      have e : (a :: b :: r).length - 1 = ((b :: r).length - 1) + 1 := by
        have h1 : (a :: b :: r).length = r.length + 2 := rfl
        have h2 : (b :: r).length = r.length + 1 := rfl
        omega
      rw [e, List.eraseIdx_cons_succ, ih]
      all_goals rfl
section
variable {X : Cx} {pins : List (Addr × Obj)} {σ : St} {H : Hp} {s : Shared} {l b : Addr} {xs ys zs : List V}
theorem Inv.lset {its its' : List Value} {n : Nat} {f : Array Value → Array Value} {t' : Nat} (I : Inv X pins σ H s) (hH : H l = some (.lst xs))
    (e : s.heap.get? l = some { cls := .type "list", data := .seq its.toArray n }) (hf : f its.toArray = its'.toArray) (hv : Vals ys its') (hz : ys.length ≤ sizeLine) :
    Inv X pins σ (upd H l (.lst ys)) { s with heap := s.heap.update l (Obj.mapSeq f), toks := t' } := by
  have q := PySem.IsL.update e f
  rw [hf] at q
  refine I.write (x := l) (e := l) (by rw [hH]; exact trivial) (.inl rfl) (fun b' u hb hu => (Heap.get?_update_other s.heap (Obj.mapSeq f) (Ne.symm hb)).trans hu) ⟨_, q⟩ ?_
  exact ⟨hz, its', _, hv, q⟩
theorem Inv.lnew {its : List Value} {t' : Nat} (I : Inv X pins σ H s) (hv : Vals ys its) (hz : ys.length ≤ sizeLine) :
    Inv X pins σ (upd H s.heap.objs.size (.lst ys)) { s with heap := s.heap.push { cls := .type "list", data := .seq its.toArray }, toks := t' } :=
  I.laid (fun _ _ q => Heap.get?_push_of_some _ q) (Nat.le_refl _) ⟨hz, its, 0, hv, Heap.get?_push_size _ rfl⟩
theorem Inv.fresh (I : Inv X pins σ H s) : H s.heap.objs.size = none := I.hok.fresh (Nat.le_refl _)
theorem Inv.lstM (I : Inv X pins σ H s) (hH : H l = some (.lst xs)) : xs.length ≤ sizeLine ∧ ∃ (its : List Value) (n : Nat), Vals xs its ∧ xs.length = its.length ∧ s.heap.get? l = some { cls := .type "list", data := .seq its.toArray n } := by
  obtain ⟨z, its, n, r, e⟩ := I.hok l _ hH
  exact ⟨z, its, n, r, r.length, e⟩
end
section
variable {X : Cx}
def rAppend : V → List V → Hp → VK → Prop := fun x vs H Q => ∃ l xs y, x = .ref l ∧ vs = [y] ∧ H l = some (.lst xs) ∧ xs.length < sizeLine ∧ Q .non (upd H l (.lst (xs ++ [y])))
theorem mt_append : MtM X "list.append" rAppend := by
  intro pins s σ H x vs v us Q I rx rv h
  obtain ⟨l, xs, y, rfl, rfl, hH, hz, q⟩ := h
  cases rx
  obtain ⟨u, rfl, ru⟩ := rv.one
  obtain ⟨z, its, n, r, hl, e⟩ := I.lstM hH
  refine call_meets F.slot_list_append ⟨_, e, rfl⟩ F.entry_list_append (F.args_list_append_2 _ _) (PySem.list_append l its.toArray n u (by rw [List.size_toArray]; omega)) ⟨e, ?_⟩
  refine ⟨.non, _, I.lset (its' := its ++ [u]) hH e (by simp) (r.append (.cons ru .nil)) ?_, rfl, q⟩
  rw [List.length_append, List.length_singleton]
  omega
def rPop : V → List V → Hp → VK → Prop := fun x vs H Q => ∃ l xs y, x = .ref l ∧ vs = [] ∧ H l = some (.lst xs) ∧ xs[xs.length - 1]? = some y ∧ Q y (upd H l (.lst xs.dropLast))
theorem mt_pop : MtM X "list.pop" rPop := by
  intro pins s σ H x vs v us Q I rx rv h
  obtain ⟨l, xs, y, rfl, rfl, hH, hy, q⟩ := h
  cases rx
  have hus := rv.zero
  subst hus
  obtain ⟨z, its, n, r, hl, e⟩ := I.lstM hH
  obtain ⟨u, hu, ru⟩ := r.get hy
  have hy' : its.toArray[its.toArray.size - 1]? = some u := by
    show its.toArray[its.length - 1]? = some u
    rw [← Array.getElem?_toList, ← hl]
    exact hu
  refine call_meets F.slot_list_pop ⟨_, e, rfl⟩ F.entry_list_pop (F.args_list_pop_1 _) (MeetsSeq.list_pop_last l its.toArray n u hy' (by rw [List.size_toArray]; omega)) ⟨e, ?_⟩
  refine ⟨y, _, I.lset (its' := its.dropLast) hH e ?_ r.dropLast ?_, ru, q⟩
  · show its.toArray.eraseIdxIfInBounds (its.toArray.size - 1) = its.dropLast.toArray
    rw [List.size_toArray, List.eraseIdxIfInBounds_toArray, erase_last]
  · rw [List.length_dropLast]
    omega
def rCat : R2 := fun x y H Q => ∃ l b xs zs, x = .ref l ∧ y = .ref b ∧ H l = some (.lst xs) ∧ H b = some (.lst zs) ∧ xs.length + zs.length ≤ sizeLine ∧ ∀ p, H p = none → Q (.ref p) (upd H p (.lst (xs ++ zs)))
theorem op_cat : OpR X (binaryOp .Add) rCat := by
  intro pins s σ H x y v u Q I rx ry h
  obtain ⟨l, b, xs, zs, rfl, rfl, hH, hB, hz, q⟩ := h
  cases rx
  cases ry
  obtain ⟨z, its, n, r, hl, e⟩ := I.lstM hH
  obtain ⟨z2, its2, n2, r2, hl2, e2⟩ := I.lstM hB
  refine PySem.P.add_list e e2 ?_ (by rw [List.size_toArray, List.size_toArray]; omega)
  have ea : its.toArray ++ its2.toArray = (its ++ its2).toArray := by simp
  rw [ea]
  exact ⟨.ref _, _, I.lnew (t' := s.toks) (r.append r2) (by rw [List.length_append]; omega), rfl, q _ I.fresh⟩
end
section
variable {prog : Program} {w : World} {A : Around} {E : Value → Shared → Prop} {s : Shared}
end
section
variable {X : Cx}
end
end L2
namespace L2
open PySem PySem.Spec PyProof.Rows
section
variable {κ : Type} [DecidableEq κ]
def valV (kvs : List (κ × V)) (k : κ) : Option V := (kvs.find? fun kv => decide (kv.1 = k)).map (·.2)
def putK (kvs : List (κ × V)) (k : κ) (v : V) : List (κ × V) :=
  if (kvs.any fun kv => decide (kv.1 = k)) = true then kvs.map (fun kv => if kv.1 = k then (kv.1, v) else kv) else kvs ++ [(k, v)]
def dropK (kvs : List (κ × V)) (k : κ) : List (κ × V) := kvs.filter fun kv => decide (kv.1 ≠ k)
theorem valV_pos {p : κ × V} {r : List (κ × V)} {k : κ} (e : p.1 = k) : valV (p :: r) k = some p.2 := by simp [valV, List.find?_cons, e]
theorem valV_neg {p : κ × V} {r : List (κ × V)} {k : κ} (e : ¬ p.1 = k) : valV (p :: r) k = valV r k := by simp [valV, List.find?_cons, e]
theorem valV_any (k : κ) : ∀ kvs : List (κ × V), (kvs.any fun kv => decide (kv.1 = k)) = (valV kvs k).isSome
  | [] => rfl
  | p :: r => by
    rw [List.any_cons]
    by_cases e : p.1 = k
    · simp only [valV_pos e, decide_eq_true e, Bool.true_or, Option.isSome_some]
    · rw [valV_neg e, decide_eq_false e, Bool.false_or]; exact valV_any k r
theorem valV_map (k j : κ) (y : V) : ∀ kvs : List (κ × V), valV (kvs.map fun kv => if kv.1 = k then (kv.1, y) else kv) j = (valV kvs j).map fun x => if j = k then y else x
  | [] => rfl
  | p :: r => by
    have ih := valV_map k j y r
    rw [List.map_cons]
    by_cases h : p.1 = k
    · rw [if_pos h]
      by_cases e : p.1 = j
      · rw [valV_pos (p := (p.1, y)) e, valV_pos e, Option.map_some, if_pos (e.symm.trans h)]
      · rw [valV_neg (p := (p.1, y)) e, valV_neg e, ih]
    · rw [if_neg h]
      by_cases e : p.1 = j
      · rw [valV_pos (p := p) e, valV_pos e, Option.map_some, if_neg (fun z => h (e.trans z))]
      · rw [valV_neg (p := p) e, valV_neg e, ih]
theorem valV_snoc (k j : κ) (y : V) : ∀ kvs : List (κ × V), valV kvs k = none → valV (kvs ++ [(k, y)]) j = if j = k then some y else valV kvs j
  | [], _ => by
    by_cases e : k = j
    · rw [if_pos e.symm]; exact valV_pos (p := (k, y)) e
    · rw [if_neg (fun z => e z.symm)]; exact valV_neg (p := (k, y)) e
  | p :: r, hn => by
    rw [List.cons_append]
    have hk : ¬ p.1 = k := fun z => by rw [valV_pos z] at hn; cases hn
    rw [valV_neg hk] at hn
    have ih := valV_snoc k j y r hn
    by_cases e : p.1 = j
    · rw [valV_pos e, valV_pos e, if_neg (fun z => hk (e.trans z))]
    · rw [valV_neg e, valV_neg e, ih]
theorem valV_put (kvs : List (κ × V)) (k j : κ) (y : V) : valV (putK kvs k y) j = if j = k then some y else valV kvs j := by
  unfold putK
  by_cases a : (kvs.any fun kv => decide (kv.1 = k)) = true
  · rw [if_pos a, valV_map]
    rw [valV_any] at a
    by_cases e : j = k
    · obtain ⟨x, hx⟩ := Option.isSome_iff_exists.mp a
      rw [if_pos e, e, hx, Option.map_some, if_pos rfl]
    · rw [if_neg e]
      cases valV kvs j with
      | none => rfl
      | some x => rw [Option.map_some, if_neg e]
  · rw [if_neg a]
    refine valV_snoc k j y kvs ?_
    rw [valV_any] at a
    cases q : valV kvs k with
    | none => rfl
    | some x => rw [q] at a; exact (a rfl).elim
theorem length_putK (kvs : List (κ × V)) (k : κ) (v : V) : (putK kvs k v).length ≤ kvs.length + 1 := by
  unfold putK
  split
  · rw [List.length_map]; omega
  · rw [List.length_append, List.length_cons, List.length_nil]; omega
theorem RelO.isSome_eq {o : Option V} {u : Option Value} (r : RelO o u) : o.isSome = u.isSome := by
  cases o with
  | none => cases u with
    | none => rfl
    | some _ => exact (show False from r).elim
  | some _ => cases u with
    | none => exact (show False from r).elim
    | some _ => rfl
theorem RelO.getD {o : Option V} {u : Option Value} {d : V} {d' : Value} (r : RelO o u) (rd : RelV d d') : RelV (o.getD d) (u.getD d') := by
  cases o with
  | none => cases u with
    | none => exact rd
    | some _ => exact (show False from r).elim
  | some _ => cases u with
    | none => exact (show False from r).elim
    | some _ => exact r
theorem KV.val {kvs : List (κ × V)} {vs : List (κ × Value)} (r : KV kvs vs) (k : κ) : RelO (valV kvs k) (valueAt vs k) := by
  unfold KV at r
  induction r with
  | nil => exact True.intro
  | @cons p q ps qs h t ih =>
    obtain ⟨h1, h2⟩ := h
    by_cases e : p.1 = k
    · have e' : q.1 = k := h1.symm.trans e
      have b : valueAt (q :: qs) k = some q.2 := by simp [valueAt, List.find?_cons, e']
      rw [valV_pos e, b]; exact h2
    · have e' : ¬ q.1 = k := fun z => e (h1.trans z)
      have b : valueAt (q :: qs) k = valueAt qs k := by simp [valueAt, List.find?_cons, e']
      rw [valV_neg e, b]; exact ih
theorem KV.any {kvs : List (κ × V)} {vs : List (κ × Value)} (r : KV kvs vs) (k : κ) : (kvs.any fun kv => decide (kv.1 = k)) = vs.any fun kv => decide (kv.1 = k) := by
  unfold KV at r
  induction r with
  | nil => rfl
  | cons h t ih => rw [List.any_cons, List.any_cons, ih, h.1]
theorem KV.repl {kvs : List (κ × V)} {vs : List (κ × Value)} (r : KV kvs vs) (k : κ) {y : V} {u : Value} (ry : RelV y u) :
    KV (kvs.map fun kv => if kv.1 = k then (kv.1, y) else kv) (vs.map fun kv => if kv.1 = k then (kv.1, u) else kv) := by
  unfold KV at r ⊢
  induction r with
  | nil => exact .nil
  | @cons p q ps qs h t ih =>
    rw [List.map_cons, List.map_cons]
    refine .cons ?_ ih
    obtain ⟨h1, h2⟩ := h
    by_cases e : p.1 = k
    · rw [if_pos e, if_pos (h1.symm.trans e)]; exact ⟨h1, ry⟩
    · rw [if_neg e, if_neg (fun z => e (h1.trans z))]; exact ⟨h1, h2⟩
theorem KV.put {kvs : List (κ × V)} {vs : List (κ × Value)} (r : KV kvs vs) (k : κ) {y : V} {u : Value} (ry : RelV y u) : KV (putK kvs k y) (stored vs k u) := by
  unfold putK stored
  rw [r.any k]
  by_cases e : (vs.any fun kv => decide (kv.1 = k)) = true
  · rw [if_pos e, if_pos e]; exact r.repl k ry
  · rw [if_neg e, if_neg e]; exact Paired.snoc r ⟨rfl, ry⟩
theorem KV.drop {kvs : List (κ × V)} {vs : List (κ × Value)} (r : KV kvs vs) (k : κ) : KV (dropK kvs k) (without vs k) := by
  unfold KV at r ⊢
  unfold dropK without
  induction r with
  | nil => exact .nil
  | @cons p q ps qs h t ih =>
    obtain ⟨h1, h2⟩ := h
    rw [List.filter_cons, List.filter_cons]
    by_cases e : p.1 = k
    · have a : ¬ decide (p.1 ≠ k) = true := by simp [e]
      have b : ¬ decide (q.1 ≠ k) = true := by simp [h1.symm.trans e]
      rw [if_neg a, if_neg b]; exact ih
    · have e' : ¬ q.1 = k := fun z => e (h1.trans z)
      have a : decide (p.1 ≠ k) = true := by simp [e]
      have b : decide (q.1 ≠ k) = true := by simp [e']
      rw [if_pos a, if_pos b]; exact .cons ⟨h1, h2⟩ ih
theorem KV.keys {kvs : List (κ × V)} {vs : List (κ × Value)} (r : KV kvs vs) : kvs.map (·.1) = vs.map (·.1) := by
  unfold KV at r
  induction r with
  | nil => rfl
  | cons h t ih => rw [List.map_cons, List.map_cons, ih, h.1]
theorem KV.length {kvs : List (κ × V)} {vs : List (κ × Value)} (r : KV kvs vs) : kvs.length = vs.length := Paired.length r
end
theorem kV_is {P : Program} {w : World} {k : Key} {u : Value} (r : RelV (kV k) u) : (mixKind P w).is k u = true := by
  cases k with
  | inl i => obtain ⟨t, e⟩ := (show ∃ t, u = Value.int i t from r); subst e; exact mixKind_int P w i t
  | inr x => obtain ⟨t, e⟩ := (show ∃ t, u = Value.str x t from r); subst e; exact mixKind_str P w x t
theorem items_are {P : Program} {w : World} : ∀ {ks : List Key} {us : List Value}, Vals (ks.map kV) us → ItemsAre (mixKind P w) ks us
  | [], _, r => by rw [List.map_nil] at r; cases r; exact .nil
  | k :: ks, _, r => by
    rw [List.map_cons] at r
    cases r with
    | cons h t => exact .cons (kV_is h) (items_are t)
abbrev KT (H : Hp) : List (List Key × V) → List (List Key × Addr × Value) → Prop := Paired fun p q => p.1 = q.1 ∧ H q.2.1 = some (.tup (p.1.map kV)) ∧ RelV p.2 q.2.2
theorem KT.val {H : Hp} {kvs : List (List Key × V)} {xs : List (List Key × Addr × Value)} (r : KT H kvs xs) (k : List Key) : RelO (valV kvs k) ((atKey xs k).map (·.2)) := by
  induction r with
  | nil => exact True.intro
  | @cons p q ps qs h t ih =>
    obtain ⟨h1, _, h2⟩ := h
    by_cases e : p.1 = k
    · have e' : q.1 = k := h1.symm.trans e
      have b : atKey (q :: qs) k = some q.2 := by simp [atKey, List.find?_cons, e']
      rw [valV_pos e, b]; exact h2
    · have e' : ¬ q.1 = k := fun z => e (h1.trans z)
      have b : atKey (q :: qs) k = atKey qs k := by simp [atKey, List.find?_cons, e']
      rw [valV_neg e, b]; exact ih
theorem KT.repl {H : Hp} {kvs : List (List Key × V)} {xs : List (List Key × Addr × Value)} (r : KT H kvs xs) (k : List Key) {y : V} {u : Value} (ry : RelV y u) :
    KT H (kvs.map fun kv => if kv.1 = k then (kv.1, y) else kv) (xs.map (putAt k u)) := by
  induction r with
  | nil => exact .nil
  | @cons p q ps qs h t ih =>
    rw [List.map_cons, List.map_cons]
    refine .cons ?_ ih
    obtain ⟨h1, h2, h3⟩ := h
    unfold putAt
    by_cases e : p.1 = k
    · rw [if_pos e, if_pos (h1.symm.trans e)]; exact ⟨h1, h2, ry⟩
    · rw [if_neg e, if_neg (fun z => e (h1.trans z))]; exact ⟨h1, h2, h3⟩
theorem KT.put {H : Hp} {kvs : List (List Key × V)} {xs : List (List Key × Addr × Value)} (r : KT H kvs xs) (k : List Key) {b : Addr} {y : V} {u : Value} (hb : H b = some (.tup (k.map kV))) (ry : RelV y u) :
    KT H (putK kvs k y) (storedH xs k b u) := by
  have e : (kvs.any fun kv => decide (kv.1 = k)) = (atKey xs k).isSome := by
    rw [valV_any, (r.val k).isSome_eq, Option.isSome_map]
  unfold putK storedH
  rw [e]
  by_cases q : (atKey xs k).isSome = true
  · rw [if_pos q, if_pos q]; exact r.repl k ry
  · rw [if_neg q, if_neg q]; exact Paired.snoc r ⟨rfl, hb, ry⟩
theorem KT.keeps {H H' : Hp} {kvs : List (List Key × V)} {xs : List (List Key × Addr × Value)} (r : KT H kvs xs) (ht : ∀ b ys, H b = some (.tup ys) → H' b = some (.tup ys)) : KT H' kvs xs :=
  Paired.mapP r fun _ _ z => ⟨z.1, ht _ _ z.2.1, z.2.2⟩
section
variable {P : Program} {w : World} {H : Hp} {h : Heap} {a : Addr}
theorem rd_of {u : HO} (ok : HOk P w H h) (e : Rd H a u) : ObjOk P w H h a u := e.ok ok
theorem dk_rd {kvs : List (Key × V)} (ok : HOk P w H h) (e : Rd H a (.dK kvs)) : kvs.length ≤ sizeLine ∧ (a == sysModules) = false ∧ ∃ vs, KV kvs vs ∧ h.DictOf (mixKind P w) a vs :=
  show ObjOk P w H h a (.dK kvs) from rd_of ok e
theorem dk_of {kvs : List (Key × V)} (ok : HOk P w H h) (e : H a = some (.dK kvs)) : kvs.length ≤ sizeLine ∧ (a == sysModules) = false ∧ ∃ vs, KV kvs vs ∧ h.DictOf (mixKind P w) a vs := dk_rd ok (.inl e)
theorem key_of {ks : List Key} (ok : HOk P w H h) (e : H a = some (.tup (ks.map kV))) : (tupleKind (mixKind P w)).is h ks a := by
  obtain ⟨_, its, r, o, h1, h2, n, h3⟩ := (show ObjOk P w H h a (.tup (ks.map kV)) from ok a _ e)
  exact ⟨o, its.toArray, n, h1, h2, h3, by simpa using items_are r⟩
theorem dt_rd {kvs : List (List Key × V)} (ok : HOk P w H h) (e : Rd H a (.dT kvs)) : kvs.length ≤ sizeLine ∧ (a == sysModules) = false ∧
    ∃ xs, KT H kvs xs ∧ h.DictOfH (tupleKind (mixKind P w)) a xs := by
  obtain ⟨z, y, xs, r, o, es, ep, h1, h2, h3, h4, h5⟩ := (show ObjOk P w H h a (.dT kvs) from rd_of ok e)
  refine ⟨z, y, xs, r, o, es, ep, h1, h2, h3, h4, fun x hx => ?_, h5⟩
  have all : ∀ {l : List (List Key × V)} {m : List (List Key × Addr × Value)}, KT H l m → ∀ x ∈ m, (tupleKind (mixKind P w)).is h x.1 x.2.1 := by
    intro l m q
    induction q with
    | nil => intro x hx; exact nomatch hx
    | @cons p q ps qs hq t ih =>
      intro x hx
      rcases List.mem_cons.mp hx with e | hx
      · subst e
        exact key_of ok (by rw [← hq.1]; exact hq.2.1)
      · exact ih x hx
  exact all r x hx
theorem dt_of {kvs : List (List Key × V)} (ok : HOk P w H h) (e : H a = some (.dT kvs)) : kvs.length ≤ sizeLine ∧ (a == sysModules) = false ∧
    ∃ xs, KT H kvs xs ∧ h.DictOfH (tupleKind (mixKind P w)) a xs := dt_rd ok (.inl e)
end
def DGet (H : Hp) (a : Addr) (y : V) (r : Option V) : Prop :=
  (∃ kvs k, Rd H a (.dK kvs) ∧ y = kV k ∧ r = valV kvs k) ∨ ∃ kvs k b, Rd H a (.dT kvs) ∧ y = .ref b ∧ H b = some (.tup (k.map kV)) ∧ r = valV kvs k
def DPut (H : Hp) (a : Addr) (y v : V) (H' : Hp) : Prop :=
  (∃ kvs k, H a = some (.dK kvs) ∧ y = kV k ∧ kvs.length < sizeLine ∧ H' = upd H a (.dK (putK kvs k v))) ∨
  ∃ kvs k b, H a = some (.dT kvs) ∧ y = .ref b ∧ H b = some (.tup (k.map kV)) ∧ kvs.length < sizeLine ∧ H' = upd H a (.dT (putK kvs k v))
theorem DGet.k {H : Hp} {a : Addr} {kvs : List (Key × V)} {k : Key} (e : H a = some (.dK kvs)) : DGet H a (kV k) (valV kvs k) := .inl ⟨kvs, k, .inl e, rfl, rfl⟩
theorem DGet.t {H : Hp} {a b : Addr} {kvs : List (List Key × V)} {k : List Key} (e : H a = some (.dT kvs)) (eb : H b = some (.tup (k.map kV))) : DGet H a (.ref b) (valV kvs k) := .inr ⟨kvs, k, b, .inl e, rfl, eb, rfl⟩
theorem DPut.k {H : Hp} {a : Addr} {kvs : List (Key × V)} {k : Key} {v : V} (e : H a = some (.dK kvs)) (hl : kvs.length < sizeLine) : DPut H a (kV k) v (upd H a (.dK (putK kvs k v))) := .inl ⟨kvs, k, e, rfl, hl, rfl⟩
theorem DPut.t {H : Hp} {a b : Addr} {kvs : List (List Key × V)} {k : List Key} {v : V} (e : H a = some (.dT kvs)) (eb : H b = some (.tup (k.map kV))) (hl : kvs.length < sizeLine) :
    DPut H a (.ref b) v (upd H a (.dT (putK kvs k v))) := .inr ⟨kvs, k, b, e, rfl, eb, hl, rfl⟩
section
variable {X : Cx} {pins : List (Addr × Obj)} {σ : St} {H : Hp} {s : Shared} {a : Addr} {y v : V} {u r : Value} {o : Option V} {A : Around} {E : Value → Shared → Prop}
theorem Inv.big (I : Inv X pins σ H s) : sysModules < s.heap.objs.size := by
  have h : mainGlobals < s.heap.objs.size := (I.mod.glob.keeps I.bk).lt
  exact Nat.lt_trans (by decide) h
theorem d_getItem {Q : Value → Shared → Prop} (hu : A.units + 1 < cLine) (I : Inv X pins σ H s) (g : DGet H a y (some v)) (ry : RelV y u) (h : ∀ w' s', Inv X pins σ H s' → RelV v w' → Q w' s') :
    wpAny (model X.prog X.w) A (getItem (.ref a) u) Q E s := by
  rcases g with ⟨kvs, k, e, ey, l⟩ | ⟨kvs, k, b, e, ey, eb, l⟩
  · subst ey
    obtain ⟨z, hd, vs, rel, dd⟩ := dk_rd I.hok e
    obtain ⟨w', hw, rw'⟩ := RelO.some_of (v := v) (o := valueAt vs k) (by rw [l]; exact rel.val k)
    exact wpAny_getItem_of (kV_is ry) dd.mapOf hw (h w' _ (I.tok _) rw')
  · subst ey
    cases (show u = Value.ref b from ry)
    obtain ⟨z, hd, xs, rel, dd⟩ := dt_rd I.hok e
    obtain ⟨w', hw, rw'⟩ := RelO.some_of (v := v) (o := (atKey xs k).map (·.2)) (by rw [l]; exact rel.val k)
    obtain ⟨p, hp, hp2⟩ := Option.map_eq_some_iff.mp hw
    refine wpAny_getItem_heap (tupleKind_room_in1 hu) (key_of I.hok eb) dd hp ?_
    rw [hp2]
    exact h w' _ (I.tok _) rw'
theorem d_notIn {Q : Value → Shared → Prop} (hu : A.units + 1 < cLine) (I : Inv X pins σ H s) (g : DGet H a y o) (ry : RelV y u) (h : ∀ s', Inv X pins σ H s' → Q (.bool (!o.isSome)) s') :
    wpAny (model X.prog X.w) A (compareOp .NotIn u (.ref a)) Q E s := by
  rcases g with ⟨kvs, k, e, ey, l⟩ | ⟨kvs, k, b, e, ey, eb, l⟩
  · subst ey
    obtain ⟨z, hd, vs, rel, dd⟩ := dk_rd I.hok e
    refine wpAny_notIn_of (kV_is ry) hd dd.mapOf ?_
    rw [← (rel.val k).isSome_eq, ← l]
    exact h _ (I.tok _)
  · subst ey
    cases (show u = Value.ref b from ry)
    obtain ⟨z, hd, xs, rel, dd⟩ := dt_rd I.hok e
    refine wpAny_notIn_heap (tupleKind_room_in1 hu) (key_of I.hok eb) hd dd ?_
    have q := (rel.val k).isSome_eq
    rw [Option.isSome_map] at q
    rw [← q, ← l]
    exact h _ (I.tok _)
theorem d_write {h' : Heap} {t' : Nat} {ob : HO} (I : Inv X pins σ H s) (mu : Mut (H a)) (hs : Heap.SameBut a s.heap h') (he : ∃ q, h'.get? a = some q) (new : ObjOk X.prog X.w (upd H a ob) h' a ob) :
    Inv X pins σ (upd H a ob) { s with heap := h', toks := t' } :=
  I.write (x := a) (e := a) mu (.inl rfl) (fun b q hb z => (hs.2 b hb).trans z) he new
theorem dk_new {P : Program} {w : World} {H' : Hp} {h' : Heap} {kvs : List (Key × V)} {vs : List (Key × Value)} (z : kvs.length ≤ sizeLine) (hd : (a == sysModules) = false) (rel : KV kvs vs) (dd : h'.DictOf (mixKind P w) a vs) :
    ObjOk P w H' h' a (.dK kvs) := ⟨z, hd, vs, rel, dd⟩
theorem d_setItem {H' : Hp} {Q : Unit → Shared → Prop} (hu : A.units + 1 < cLine) (I : Inv X pins σ H s) (g : DPut H a y v H') (ry : RelV y u) (rv : RelV v r) (h : ∀ s', Inv X pins σ H' s' → Q () s') :
    wpAny (model X.prog X.w) A (setItem (.ref a) u r) Q E s := by
  rcases g with ⟨kvs, k, e, ey, l, eH⟩ | ⟨kvs, k, b, e, ey, eb, l, eH⟩
  · subst ey eH
    obtain ⟨z, hd, vs, rel, dd⟩ := dk_of I.hok e
    have hz : vs.length ≤ sizeLine := by rw [← rel.length]; exact z
    have hl : (putK kvs k v).length ≤ sizeLine := by have := length_putK kvs k v; omega
    refine wpAny_setItem_pairs (hsz := hz) (kV_is ry) dd fun h' dd' hs => h _ ?_
    have he : ∃ q, h'.get? a = some q := let ⟨q, _, _, hq, _⟩ := dd'; ⟨q, hq⟩
    exact d_write I (by rw [e]; exact True.intro) hs he (dk_new hl hd (rel.put k rv) dd')
  · subst ey eH
    cases (show u = Value.ref b from ry)
    obtain ⟨z, hd, xs, rel, dd⟩ := dt_of I.hok e
    have hz : xs.length ≤ sizeLine := by rw [← Paired.length rel]; exact z
    have hl : (putK kvs k v).length ≤ sizeLine := by have := length_putK kvs k v; omega
    refine wpAny_setItem_heap (hsz := hz) (tupleKind_room_in1 hu) (key_of I.hok eb) dd fun h' dd' hs => h _ ?_
    obtain ⟨q, es, ep, hq, h2, h3, h4, _, h5⟩ := dd'
    refine d_write I (by rw [e]; exact True.intro) hs ⟨q, hq⟩ ⟨hl, hd, _, (rel.put k eb rv).keeps fun c ys ec => ?_, q, es, ep, hq, h2, h3, h4, h5⟩
    rw [upd_ne (ne_of ec e (fun z => nomatch z))]
    exact ec
end
section
variable {X : Cx} {pins : List (Addr × Obj)} {σ : St} {H : Hp} {s : Shared} {a : Addr} {kvs : List (Key × V)} {k : Key} {u : Value} {A : Around} {E : Value → Shared → Prop}
end
def NoSl (i : Expr) : Prop := ∀ ov iv, subscripted i false ov iv = operate [ov, iv] (getItem ov iv)
theorem subD_of {prog : Program} {w : World} {A : Around} {E : Value → Shared → Prop} {s : Shared} {env : Env} {value slice : Expr} {pos : Pos} {T id : String} {Q : Value → Shared → Prop}
    (hl : typeLookup (.type T) "__getitem__" = pure (some (.builtin id))) (hs : NoSl slice)
    (h : wpAny (model prog w) A (eval value env) (fun o s₁ => wpAny (model prog w) A (eval slice env) (fun i s₂ => s₂.TypeIs o T ∧ wpAny (model prog w) A (getItem o i) Q E s₂) E s₁) E s) :
    wpAny (model prog w) A (eval (.Subscript value slice pos) env) Q E s := by
  refine Subscript_ (wpAny_mono h (fun o s₁ h₁ => wpAny_mono h₁ (fun i s₂ h₂ => ?_) fun _ _ x => x) fun _ _ x => x)
  obtain ⟨hT, h₂⟩ := h₂
  unfold subscriptTail
  refine wpAny_bind ?_
  rw [getitemInPython_of_ne hT.not_modules]
  refine wpAny_bind (wpAny_specialOf hT hl ?_)
  have fin : wpAny (model prog w) A (subscripted slice false o i) (fun r s₃ => wpAny (model prog w) A (letTemporaryGo value o r >>= fun _ => pure r) Q E s₃) E s₂ := by
    rw [hs o i]
    exact wpAny_operating (wpAny_mono h₂ (fun r s₃ h₃ => wpAny_bind (wpAny_letTemporaryGo (wpAny_pure h₃))) fun _ _ x => x)
  first
    | exact wpAny_pure (wpAny_bind fin)
    | exact wpAny_bind (wpAny_pure (wpAny_bind fin))
    | exact wpAny_bind fin
theorem dict_typeIs {X : Cx} {pins : List (Addr × Obj)} {σ : St} {H : Hp} {s : Shared} {a : Addr} {y : V} {o : Option V} (I : Inv X pins σ H s) (g : DGet H a y o) : s.TypeIs (.ref a) "dict" := by
  rcases g with ⟨kvs, k, e, _, _⟩ | ⟨kvs, k, b, e, _, _, _⟩
  · obtain ⟨_, _, vs, _, dd⟩ := dk_rd I.hok e
    exact dd.typeIs
  · obtain ⟨_, _, xs, _, dd⟩ := dt_rd I.hok e
    exact dd.typeIs
def tDGet (td ty : TE) : TE := fun σ H Q => td σ H fun x H1 => ty σ H1 fun y H2 => ∃ a v, x = .ref a ∧ DGet H2 a y (some v) ∧ Q v H2
def tDNotIn (ty td : TE) : TE := fun σ H Q => ty σ H fun y H1 => td σ H1 fun x H2 => ∃ a o, x = .ref a ∧ DGet H2 a y o ∧ Q (.bl (!o.isSome)) H2
def sDPut (td ty tv : TE) : TS := fun D σ H => tv σ H fun v H1 => td σ H1 fun x H2 => ty σ H2 fun y H3 => ∃ a H4, x = .ref a ∧ DPut H3 a y v H4 ∧ D.nx σ H4
section
variable {X : Cx} {o i e value : Expr} {pos pos' tpos : Pos} {td ty tv : TE}
theorem pe_dget (hu : X.A.units + 1 < cLine) (ho : PE X o td) (hi : PE X i ty) (hs : NoSl i) : PE X (.Subscript o i pos) (tDGet td ty) := by
  intro pins s σ H Q I h
  refine subD_of PySem.F.slot_dict_getitem.lookup hs (thn (ho pins s σ H _ I h) fun u s1 ⟨x, H1, I1, rx, q1⟩ => thn (hi pins s1 σ H1 _ I1 q1) fun iv s2 ⟨y, H2, I2, ry, a, v, ex, g, q2⟩ => ?_)
  subst ex
  obtain rfl : u = Value.ref a := rx
  exact ⟨dict_typeIs I2 g, d_getItem hu I2 g ry fun w' s3 I3 rw' => ⟨v, H2, I3, rw', q2⟩⟩
theorem pc_dnotin (hu : X.A.units + 1 < cLine) (hi : PE X i ty) (ho : PE X o td) : PC X .NotIn i o (tDNotIn ty td) := by
  intro pins s σ H Q I h
  refine thn (hi pins s σ H _ I h) fun iv s1 ⟨y, H1, I1, ry, q1⟩ => thn (ho pins s1 σ H1 _ I1 q1) fun u s2 ⟨x, H2, I2, rx, a, ov, ex, g, q2⟩ => ?_
  subst ex
  obtain rfl : u = Value.ref a := rx
  exact d_notIn hu I2 g ry fun s3 I3 => ⟨.bl (!ov.isSome), H2, I3, rfl, q2⟩
theorem ps_dput (hu : X.A.units + 1 < cLine) (ho : PE X o td) (hi : PE X i ty) (hv : PE X value tv) (hs : swapsWith value (some (.Subscript o i pos')) pos.line X.env = pure false) :
    PS X (.Assign [.Subscript o i pos'] value pos) (sDPut td ty tv) := by
  intro pins s σ H D I h
  refine wpAny_Assign_Subscript (thn (hv pins s σ H _ I h) fun r s1 ⟨v, H1, I1, rv, q1⟩ => thn (ho pins s1 σ H1 _ I1 q1) fun u s2 ⟨x, H2, I2, rx, q2⟩ => thn (hi pins s2 σ H2 _ I2 q2) fun iv s3 ⟨y, H3, I3, ry, a, H4, ex, g, q3⟩ => ?_) hs
  subst ex
  obtain rfl : u = Value.ref a := rx
  exact d_setItem hu I3 g ry rv fun s4 I4 => ⟨σ, H4, I4, q3⟩
end
theorem dt_empty {P : Program} {w : World} {H : Hp} (h : Heap) (hb : sysModules < h.objs.size) : ObjOk P w H (h.push { cls := .type "dict", data := .dict #[] }) h.objs.size (.dT []) :=
  ⟨Nat.zero_le _, beq_eq_false_iff_ne.mpr (Ne.symm (Nat.ne_of_lt hb)), [], .nil, _, #[], 0, Heap.get?_push_size _ rfl, ⟨rfl, rfl, rfl⟩, rfl, rfl, List.nodup_nil⟩
def tDNewT : TE := fun _ H Q => ∀ p, H p = none → Q (.ref p) (upd H p (.dT []))
section
variable {X : Cx} {pos : Pos}
theorem pe_dnewT : PE X (.Dict [] [] pos) tDNewT := fun pins s σ H Q I h =>
  wpAny_Dict_empty ⟨.ref s.heap.objs.size, _, I.laid (a := s.heap.objs.size) (o := .dT []) (t' := s.toks) (fun _ _ q => Heap.get?_push_of_some _ q) (Nat.le_refl _) (dt_empty s.heap I.big), rfl, h _ (I.hok.fresh (Nat.le_refl _))⟩
end
def tPairs : List (TE × TE) → St → Hp → (List (V × V) → Hp → Prop) → Prop
  | [], _, H, Q => Q [] H
  | (tk, tv) :: r, σ, H, Q => tk σ H fun x H1 => tv σ H1 fun y H2 => tPairs r σ H2 fun ps H3 => Q ((x, y) :: ps) H3
abbrev VV : List (V × V) → List (Value × Value) → Prop := Paired fun p q => RelV p.1 q.1 ∧ RelV p.2 q.2
def PPs (X : Cx) (pos : Pos) (keys : List (Option Expr)) (values : List Expr) (trs : List (TE × TE)) : Prop :=
  ∀ (pins : List (Addr × Obj)) (s : Shared) (σ : St) (H : Hp) (Q : List (V × V) → Hp → Prop), Inv X pins σ H s → tPairs trs σ H Q →
    wpAny (model X.prog X.w) X.A (evalPairs (pairTrees keys values X.env pos)) (fun vs s' => ∃ ps H', Inv X pins σ H' s' ∧ VV ps vs ∧ Q ps H') X.xe s
theorem pps_nil {X : Cx} {pos : Pos} : PPs X pos [] [] [] := fun pins s σ H Q I h => pairTrees_nil_walk ⟨[], H, I, .nil, h⟩
theorem pps_cons {X : Cx} {pos : Pos} {k v : Expr} {ks : List (Option Expr)} {vs : List Expr} {tk tv : TE} {trs : List (TE × TE)} (hk : PE X k tk) (hv : PE X v tv) (hr : PPs X pos ks vs trs) :
    PPs X pos (some k :: ks) (v :: vs) ((tk, tv) :: trs) := fun pins s σ H Q I h =>
  pairTrees_cons_walk (thn (hk pins s σ H _ I h) fun u s1 ⟨x, H1, I1, rx, q1⟩ => thn (hv pins s1 σ H1 _ I1 q1) fun w2 s2 ⟨y, H2, I2, ry, q2⟩ =>
    thn (hr pins s2 σ H2 _ I2 q2) fun ws s3 ⟨ps, H3, I3, rel, q3⟩ => ⟨(x, y) :: ps, H3, I3, .cons ⟨rx, ry⟩ rel, q3⟩)
structure M1 (X : Cx) (o : Expr) (m : Str) (apos : Pos) (e : Expr) (cpos : Pos) : Prop where
  base : attributeBase o m X.env (eval o X.env) = eval o X.env
  few : ((backTo cpos (starEach [e] X.env)).all (fun x => !x.1) && (backToKw cpos (keywordEach [] X.env)).all (fun x => x.1.isSome)
    && decide (([e] : List Expr).length + ([] : List Keyword).length + (if ([] : List Keyword).isEmpty then 0 else 1) < 30)) = true
  line : (apos.endLine == cpos.line) = true
  trees : backTo cpos (starEach [e] X.env) = [(false, eval e X.env)]
structure M2 (X : Cx) (o : Expr) (m : Str) (apos : Pos) (e f : Expr) (cpos : Pos) : Prop where
  base : attributeBase o m X.env (eval o X.env) = eval o X.env
  few : ((backTo cpos (starEach [e, f] X.env)).all (fun x => !x.1) && (backToKw cpos (keywordEach [] X.env)).all (fun x => x.1.isSome)
    && decide (([e, f] : List Expr).length + ([] : List Keyword).length + (if ([] : List Keyword).isEmpty then 0 else 1) < 30)) = true
  line : (apos.endLine == cpos.line) = true
  trees : backTo cpos (starEach [e, f] X.env) = [(false, eval e X.env), (false, eval f X.env)]
def IsD (H : Hp) (a : Addr) : Prop := (∃ kvs, Rd H a (.dK kvs)) ∨ ∃ kvs, Rd H a (.dT kvs)
theorem isD_at {X : Cx} {pins : List (Addr × Obj)} {σ : St} {H : Hp} {s : Shared} {a : Addr} (I : Inv X pins σ H s) (d : IsD H a) :
    s.TypeIs (.ref a) "dict" ∧ (∀ b, Value.ref a = .ref b → ∃ ob, s.heap.get? b = some ob ∧ ob.dict = none) ∧ (a == sysModules) = false := by
  rcases d with ⟨kvs, e⟩ | ⟨kvs, e⟩
  · obtain ⟨_, hd, vs, _, dd⟩ := dk_rd I.hok e
    refine ⟨dd.typeIs, fun b q => ?_, hd⟩
    cases q
    obtain ⟨ob, _, _, h1, h2, _⟩ := dd
    exact ⟨ob, h1, h2.2.1⟩
  · obtain ⟨_, hd, xs, _, dd⟩ := dt_rd I.hok e
    refine ⟨dd.typeIs, fun b q => ?_, hd⟩
    cases q
    obtain ⟨ob, _, _, h1, h2, _⟩ := dd
    exact ⟨ob, h1, h2.2.1⟩
section
variable {X : Cx} {pins : List (Addr × Obj)} {σ : St} {H : Hp} {s : Shared} {a : Addr} {y d : V} {u r : Value} {o : Option V} {A : Around} {E : Value → Shared → Prop}
theorem d_get1 {Q : Value → Shared → Prop} (hu : A.units + 1 < cLine) (I : Inv X pins σ H s) (g : DGet H a y o) (ry : RelV y u) (h : ∀ w' s', Inv X pins σ H s' → RelV (o.getD .non) w' → Q w' s') :
    wpAny (model X.prog X.w) A (call (.builtin "dict.get") [.ref a, u]) Q E s := by
  rcases g with ⟨kvs, k, e, ey, l⟩ | ⟨kvs, k, b, e, ey, eb, l⟩
  · subst ey
    obtain ⟨z, hd, vs, rel, dd⟩ := dk_rd I.hok e
    refine call_meetsIn PySem.F.slot_dict_get dd.typeIs PySem.F.entry_dict_get (PySem.F.args_dict_get_2 _ _) (meets_dict_get (mixKind X.prog X.w) a (kV_is ry) hd) ⟨_, dd.mapOf, h _ _ (I.tok _) ?_⟩
    rw [l]
    exact (rel.val k).getD rfl
  · subst ey
    cases (show u = Value.ref b from ry)
    obtain ⟨z, hd, xs, rel, dd⟩ := dt_rd I.hok e
    refine call_meetsIn PySem.F.slot_dict_get dd.typeIs PySem.F.entry_dict_get (PySem.F.args_dict_get_2 _ _) (meetsH_dict_get (tupleKind (mixKind X.prog X.w)) a b hd) ⟨tupleKind_room_in1 hu, k, xs, key_of I.hok eb, dd, h _ _ (I.tok _) ?_⟩
    rw [l]
    exact (rel.val k).getD rfl
theorem d_get2 {Q : Value → Shared → Prop} (hu : A.units + 1 < cLine) (I : Inv X pins σ H s) (g : DGet H a y o) (ry : RelV y u) (rd : RelV d r) (h : ∀ w' s', Inv X pins σ H s' → RelV (o.getD d) w' → Q w' s') :
    wpAny (model X.prog X.w) A (call (.builtin "dict.get") [.ref a, u, r]) Q E s := by
  rcases g with ⟨kvs, k, e, ey, l⟩ | ⟨kvs, k, b, e, ey, eb, l⟩
  · subst ey
    obtain ⟨z, hd, vs, rel, dd⟩ := dk_rd I.hok e
    refine call_meetsIn PySem.F.slot_dict_get dd.typeIs PySem.F.entry_dict_get (PySem.F.args_dict_get_3 _ _ _) (meets_dict_get_default (mixKind X.prog X.w) a (kV_is ry) hd r) ⟨_, dd.mapOf, h _ _ (I.tok _) ?_⟩
    rw [l]
    exact (rel.val k).getD rd
  · subst ey
    cases (show u = Value.ref b from ry)
    obtain ⟨z, hd, xs, rel, dd⟩ := dt_rd I.hok e
    refine call_meetsIn PySem.F.slot_dict_get dd.typeIs PySem.F.entry_dict_get (PySem.F.args_dict_get_3 _ _ _) (meetsH_dict_get_default (tupleKind (mixKind X.prog X.w)) a b hd r) ⟨tupleKind_room_in1 hu, k, xs, key_of I.hok eb, dd, h _ _ (I.tok _) ?_⟩
    rw [l]
    exact (rel.val k).getD rd
end
def tDGet1 (td ty : TE) : TE := fun σ H Q => td σ H fun x H1 => ∃ a, x = .ref a ∧ IsD H1 a ∧ ty σ H1 fun y H2 => ∃ o, DGet H2 a y o ∧ Q (o.getD .non) H2
def tDGet2 (td ty tx : TE) : TE := fun σ H Q => td σ H fun x H1 => ∃ a, x = .ref a ∧ IsD H1 a ∧ ty σ H1 fun y H2 => tx σ H2 fun z H3 => ∃ o, DGet H3 a y o ∧ Q (o.getD z) H3
section
variable {X : Cx} {o e f : Expr} {apos cpos : Pos} {td ty tx : TE}
theorem pe_dget1 (hu : X.A.units + 1 < cLine) (ho : PE X o td) (he : PE X e ty) (m : M1 X o "get" apos e cpos) : PE X (.Call (.Attribute o "get" apos) [e] [] cpos) (tDGet1 td ty) := by
  intro pins s σ H Q I h
  refine wpAny_Call_method m.base m.few m.line PySem.F.plainAttrs_dict PySem.F.slot_dict_get PySem.F.type_dict_get (thn (ho pins s σ H _ I h) fun u s1 ⟨x, H1, I1, rx, a, ex, d, q1⟩ => ?_)
  subst ex
  obtain rfl : u = Value.ref a := rx
  obtain ⟨t1, t2, _⟩ := isD_at I1 d
  refine ⟨t1, t2, ?_⟩
  rw [m.trees]
  refine Calls.callWith_builtin rfl (Calls.evalArgs_plain (Calls.spliced_cons (thn (he pins s1 σ H1 _ I1 q1) fun iv s2 ⟨y, H2, I2, ry, ov, g, q2⟩ => Calls.spliced_nil ?_)))
  exact d_get1 hu I2 g ry fun w' s3 I3 rw' => ⟨_, H2, I3, rw', q2⟩
theorem pe_dget2 (hu : X.A.units + 1 < cLine) (ho : PE X o td) (he : PE X e ty) (hf : PE X f tx) (m : M2 X o "get" apos e f cpos) : PE X (.Call (.Attribute o "get" apos) [e, f] [] cpos) (tDGet2 td ty tx) := by
  intro pins s σ H Q I h
  refine wpAny_Call_method m.base m.few m.line PySem.F.plainAttrs_dict PySem.F.slot_dict_get PySem.F.type_dict_get (thn (ho pins s σ H _ I h) fun u s1 ⟨x, H1, I1, rx, a, ex, d, q1⟩ => ?_)
  subst ex
  obtain rfl : u = Value.ref a := rx
  obtain ⟨t1, t2, _⟩ := isD_at I1 d
  refine ⟨t1, t2, ?_⟩
  rw [m.trees]
  refine Calls.callWith_builtin rfl (Calls.evalArgs_plain (Calls.spliced_cons (thn (he pins s1 σ H1 _ I1 q1) fun iv s2 ⟨y, H2, I2, ry, q2⟩ =>
    Calls.spliced_cons (thn (hf pins s2 σ H2 _ I2 q2) fun fv s3 ⟨z, H3, I3, rz, ov, g, q3⟩ => Calls.spliced_nil ?_))))
  exact d_get2 hu I3 g ry rz fun w' s4 I4 rw' => ⟨_, H3, I4, rw', q3⟩
end
section
variable {X : Cx} {pins : List (Addr × Obj)} {σ : St} {H : Hp} {s : Shared} {a : Addr} {kvs : List (Key × V)} {A : Around} {E : Value → Shared → Prop}
end
section
variable {X : Cx} {pins : List (Addr × Obj)} {σ : St} {H : Hp} {s : Shared} {a : Addr} {y : V} {u : Value} {A : Around} {E : Value → Shared → Prop}
end
end L2
namespace Att
open PySem PySem.W PySem.Calls PyProof.Rows
theorem ints_of_wellAll {P : Params} {h : Heap} : ∀ (ns : List Int) (vs : List Value), WellAll P h vs (ns.map WData.int) → IntsAre vs ns := by
  intro ns
  induction ns with
  | nil =>
    intro vs w
    rw [List.map_nil] at w
    cases w
    exact .nil
  | cons n ns ih =>
    intro vs w
    rw [List.map_cons] at w
    cases w with
    | cons a b =>
      cases a
      exact .cons _ _ (ih _ b)
theorem script_of {l : OpenLaw} {n : Nat} (hn : l.most = some n) {P : Params} {h : Heap} {args : List WData} {vals : List Value}
    (hpre : l.row.toRowW.claim.pre args = true) (hwl : WellAll P h vals args) :
    ∃ a vs ns, vals = [Value.ref a] ∧ args = [WData.list (ns.map WData.int)] ∧ h.get? a = some { cls := .type "list", data := .seq vs.toArray } ∧ IntsAre vs ns ∧ ns.length ≤ n := by
  have hsh : WShape.hasAll [] args [.list .int] = true := (pre_splitW hpre).1
  have hc : l.pre.holds [] { args := args } = true := (pre_splitW hpre).2
  obtain ⟨d, r, rfl, h1, h2⟩ := hasAllW_cons hsh
  obtain rfl := hasAllW_nil h2
  obtain ⟨xs, rfl, h3⟩ := hasW_list h1
  obtain ⟨ns, rfl⟩ := items_int h3
  have hlen : ns.length ≤ n := by
    unfold OpenLaw.pre at hc
    have h4 : (WTm.not (.lt (.lit (.int (n : Int))) (.len (.arg 0)))).holds [] { args := [.list (ns.map .int)] } = true := by
      have h4 := (holds_andW hc).1
      rw [hn] at h4
      exact h4
    have h5 := condW_of h4 (w_not (w_lt w_lit (w_len_list (w_arg rfl))))
    rw [List.length_map] at h5
    refine Nat.le_of_not_lt fun q => ?_
    have q' : (n : Int) < ((ns.length : Nat) : Int) := by omega
    first
      | (rw [decide_eq_true q'] at h5; exact absurd h5 (by decide))
      | (simp at h5; omega)
  cases hwl with
  | cons w1 w2 =>
    cases w2
    cases w1 with
    | list ho hall => exact ⟨_, _, ns, rfl, rfl, ho, ints_of_wellAll ns _ hall, hlen⟩
theorem post_true (l : OpenLaw) (args : List WData) : l.row.toRowW.claim.post args (.bool true) args = true :=
  postW_of (r := l.row.toRowW) (X := (true == true))
    (show WShape.has [] (.bool true) .bool = true by first | rfl | decide | simp [WShape.has, WShape.arms, WShape.armsAll])
    (show (WTm.eq .res (.lit (.bool true))).value [] { args := args, res := some (.bool true), after := args } = some (.bool (true == true)) from w_eq_bool (w_res rfl) w_lit) rfl
theorem attach_call {l : OpenLaw} {n : Nat} {q : Program} {loose : List Str} {XP : (Str → Option Value) → Heap → Prop} {YP : World → Heap → Prop} {d : DefRec}
    (hn : l.most = some n) (hdf : d.params.defaults = [])
    (call : ∀ (w : World) (s₀ s₁ : Shared) (mg mb : Str → Option Value) (fa : Addr) (o : Obj) (pm cd doc : Value) (a : Addr) (vs : List Value) (ns : List Int),
      Ground q loose [] XP w s₀ mg mb s₁.heap → YP w s₁.heap →
      s₁.heap.get? fa = some o → o.data = .func (docDef d.name d.params d.body d.scope pm cd doc) → s₁.heap.CodeRec cd d.name → mg d.name = some (.ref fa) →
      s₁.heap.get? a = some { cls := .type "list", data := .seq vs.toArray } → IntsAre vs ns → ns.length ≤ n → s₁.gens = #[] →
      codeAny (model l.prog w) callerA (.call (.ref fa) ⟨[.ref a], []⟩) (fun r s' => r = .ok (.ret (.bool true)) ∧ OldK s₁.heap s'.heap ∧ s'.os = s₁.os ∧ AllBare s'.gens) s₁) :
    WalkO q loose XP YP l.row.toRowW d [] (fun f vs => PySem.call f vs) := by
  intro w s₀ s₁ mg mb G Y fa o pm cd doc dV kV ho hd hcd hD hmg hg args vals as hpre hlay hrd hwl hlo
  obtain rfl : dV = .none := Dflts.none hD hdf
  obtain rfl : kV = .none := Dflts.noKw hD
  obtain ⟨a, vs, ns, rfl, rfl, hobj, hints, hlen⟩ := script_of hn hpre hwl
  refine enter_call (codeAny_mono (call w s₀ s₁ mg mb fa o pm cd doc a vs ns G Y ho (fd_plain hd) hcd hmg hobj hints hlen hg) fun r s' hq => ?_)
  obtain ⟨rfl, h2, h3, h4⟩ := hq
  exact ⟨.inl ⟨.bool true, .bool true, [], rfl, fun _ => rfl, .bool true, post_true l _, fun _ => ⟨List.Pairwise.nil, fun _ hm => (nomatch hm)⟩⟩, h2, h3, h4⟩
section
variable {prog : Program} {w : World} {A : Around} {E : Value → Shared → Prop} {s : Shared} {K : Frag}
end
end Att
namespace L2
open PySem PySem.Spec PyProof.Rows
theorem vals_ints : ∀ {vs : List Value} {ns : List Int}, IntsAre vs ns → Vals (ns.map V.int) vs
  | _, _, .nil => .nil
  | _, _, .cons n t h => .cons ⟨t, rfl⟩ (vals_ints h)
end L2
namespace L2
open PySem PySem.Spec PyProof.Rows
end L2
namespace L2
open PySem PySem.Spec PyProof.Rows
def inClass (s : Stmt) (j : Nat) : Stmt := match s with
  | .ClassDef _ _ _ body _ _ _ _ _ _ _ => body.getD j (.Pass ⟨0, 0, 0, 0⟩)
  | _ => .Pass ⟨0, 0, 0, 0⟩
def defArgs (s : Stmt) : Arguments := match s with
  | .FunctionDef _ a _ _ _ _ _ _ _ _ => a
  | _ => { posonlyargs := [], args := [], vararg := none, kwonlyargs := [], kw_defaults := [], kwarg := none, defaults := [] }
def defBody (s : Stmt) : List Stmt := match s with
  | .FunctionDef _ _ b _ _ _ _ _ _ _ => b
  | _ => []
def defScope (s : Stmt) : Scope := match s with
  | .FunctionDef _ _ _ _ _ _ sc _ _ _ => sc
  | _ => { kind := .function, names := [], isGenerator := false, isCoroutine := false }
abbrev CX0 : CXT := fun _ _ _ _ _ _ => False
abbrev E0 : XK := fun _ _ _ => False
structure Fun (K : PySem.W.Frag) (x qual : Str) (st : Stmt) (f : Addr) (fd : FuncData) : Prop where
  ex : ∃ (oc : Value) (od : Option Addr) (kV doc pm : Value) (an : Option Addr) (cdv ct : Value) (osl : Array (Option Value)),
    fd = PySem.W.fnOf x qual (defArgs st) (defBody st) (defScope st) .none kV doc pm an cdv ct ∧ K.lookup f = some ⟨oc, od, .func fd, osl⟩ ∧ PySem.W.codeIn K cdv qual = true
  kp : PySem.W.keepIn K (.ref f) = true
section
variable {P : Program} {w : World} {K : PySem.W.Frag} {mg : Str → Option Value} {base : Heap}
theorem Fun.ok {x qual : Str} {st : Stmt} {f : Addr} {fd : FuncData} {N ps : List Str} {k : Nat} {sp : Sp} (F : Fun K x qual st f fd) (S : FnScope N ps (defScope st)) (len : ∀ vs H Q E, sp vs H Q E → vs.length = ps.length)
    (hbody : ∀ (cdv : Value) (A : Around) (outer : List Env) (s : Shared) (H : Hp) (vs : List V) (Q : VK) (E : XK), Room k (A.deeper (envOfC qual (defScope st) s.heap.objs.size f cdv)) → sp vs H Q E →
      ∃ t, PSs (cxOf CX0 P w K mg base N qual (defScope st) f cdv A outer s H E).nox (defBody st) t ∧ t { nx := fun _ H' => Q .non H', rt := Q } (start N vs) H) : FnOk P w K mg base CX0 (k + 1) f fd ps sp := by
  obtain ⟨oc, od, kV, doc, pm, an, cdv, ct, osl, rfl, lk, hcd⟩ := F.ex
  refine fn_of lk hcd S len fun A outer s H vs Q E hr hsp => ?_
  obtain ⟨t, h, q⟩ := hbody cdv A outer s H vs Q E hr hsp
  exact ⟨t, h.nox, q⟩
theorem Fun.binds {x qual : Str} {st : Stmt} {f : Addr} {fd : FuncData} {ps : List Str} (F : Fun K x qual st f fd)
    (h : ∀ (kV doc pm : Value) (an : Option Addr) (cdv ct : Value) (us : List Value), us.length = ps.length → bindArgs (PySem.W.fnOf x qual (defArgs st) (defBody st) (defScope st) .none kV doc pm an cdv ct) ⟨us, []⟩ = pure (ps.zip us)) : Binds K fd ps [] := by
  obtain ⟨oc, od, kV, doc, pm, an, cdv, ct, osl, rfl, lk, hcd⟩ := F.ex
  exact .all (h kV doc pm an cdv ct)
theorem fun_mk {x qual : Str} {st : Stmt} {f : Addr} {oc : Value} {od an : Option Addr} {osl : Array (Option Value)} {kV doc pm cdv ct : Value} (l : K.lookup f = some ⟨oc, od, .func (PySem.W.fnOf x qual (defArgs st) (defBody st) (defScope st) .none kV doc pm an cdv ct), osl⟩)
    (c : PySem.W.codeIn K cdv qual = true) (k : PySem.W.keepIn K (.ref f) = true) : Fun K x qual st f (PySem.W.fnOf x qual (defArgs st) (defBody st) (defScope st) .none kV doc pm an cdv ct) := ⟨⟨oc, od, kV, doc, pm, an, cdv, ct, osl, rfl, l, c⟩, k⟩
end
theorem small1000 {n : Nat} (h : n ≤ 1000) : n < sizeLine := Nat.lt_of_le_of_lt h (by decide)
section
variable {X : Cx}
theorem pv (i : Nat) {x : Str} {pos : Pos} (hN : X.N[i]? = some x := by rfl) (hv : Vis X.env.scope x := by first | exact Or.inl rfl | exact Or.inr (Or.inl rfl) | exact Or.inr (Or.inr rfl)) (hd : (x == ("__debug__" : Str)) = false := by decide)
    (hcd : (x == ("__classdict__" : Str)) = false := by decide) : PE X (.Name x pos) (tVar i) := pe_var hN hv hd hcd
end
theorem iteF {A B : Prop} (h : B) : if false = true then A else B := by
  rw [if_neg Bool.false_ne_true]
  exact h
theorem iteT {A B : Prop} (h : A) : if true = true then A else B := by
  rw [if_pos rfl]
  exact h
theorem ite2 {c A B : Prop} [Decidable c] (h1 : c → A) (h2 : ¬ c → B) : if c then A else B := by
  by_cases h : c
  · rw [if_pos h]
    exact h1 h
  · rw [if_neg h]
    exact h2 h
def Same (H H' : Hp) : Prop := ∀ b o, H b = some o → H' b = some o
theorem Same.refl (H : Hp) : Same H H := fun _ _ h => h
theorem Same.trans {H H1 H2 : Hp} (a : Same H H1) (b : Same H1 H2) : Same H H2 := fun c o h => b c o (a c o h)
theorem Same.free {H H' : Hp} (e : Same H H') {l : Addr} (h : H' l = Option.none) : H l = Option.none := by
  cases q : H l with
  | none => rfl
  | some o =>
    rw [e l o q] at h
    cases h
theorem Same.seq {K : PySem.W.Frag} {H H' : Hp} {a : Addr} {xs : List V} (e : Same H H') (h : SqL K H a xs) : SqL K H' a xs := by
  rcases h with (h | ⟨o, h⟩) | h
  · exact .inl (.inl (e _ _ h))
  · exact .inl (.inr ⟨o, e _ _ h⟩)
  · exact .inr h
section
variable {κ : Type} [DecidableEq κ]
theorem valV_not {kvs : List (κ × V)} {k : κ} (h : valV kvs k = none) : ¬ k ∈ kvs.map (·.1) := by
  intro m
  obtain ⟨p, hp, e⟩ := List.mem_map.mp m
  have q : (kvs.any fun kv => decide (kv.1 = k)) = true := List.any_eq_true.mpr ⟨p, hp, decide_eq_true e⟩
  rw [valV_any, h] at q
  exact absurd q (by simp)
theorem valV_in {kvs : List (κ × V)} {k : κ} {v : V} (h : valV kvs k = some v) : k ∈ kvs.map (·.1) := by
  have q : (kvs.any fun kv => decide (kv.1 = k)) = true := by
    rw [valV_any, h]
    all_goals rfl
  obtain ⟨p, hp, e⟩ := List.any_eq_true.mp q
  exact List.mem_map.mpr ⟨p, hp, of_decide_eq_true e⟩
end
end L2
set_option Elab.async false
set_option linter.all false
set_option maxRecDepth 100000
set_option maxHeartbeats 4000000
namespace L2
open PySem PySem.Spec PyProof.Rows
def clGo (env : Env) : List (Str × NameKind) → List (Str × Addr) → List (Str × Addr)
  | [], cs => cs
  | (n, k) :: r, cs => clGo env r (if k = NameKind.free then (n, (env.cells.lookup n).getD 0) :: cs else cs)
def clOf (scope : Scope) (env : Env) : List (Str × Addr) := clGo env scope.names []
def freeOk (scope : Scope) (env : Env) : Bool := scope.names.all fun p => p.2 != NameKind.free || (env.kindOf p.1 == some NameKind.cell || env.kindOf p.1 == some NameKind.free)
theorem clGo_run {env : Env} : ∀ (l : List (Str × NameKind)) (cs : List (Str × Addr)), (∀ p ∈ l, p.2 = NameKind.free → ∃ c, env.cells.lookup p.1 = some c) →
    (forIn l cs fun (x : Str × NameKind) (r : List (Str × Addr)) =>
      (if (x.2 == NameKind.free) = true then (do let c ← cellOf env x.1; pure (ForInStep.yield ((x.1, c) :: r))) else pure (ForInStep.yield r) : Sem (ForInStep (List (Str × Addr))))) = pure (clGo env l cs)
  | [], cs, _ => rfl
  | (n, k) :: r, cs, h => by
    rw [List.forIn_cons]
    by_cases e : k = NameKind.free
    · subst e
      obtain ⟨c, hc⟩ := h (n, .free) List.mem_cons_self rfl
      have hc' : env.cells.lookup n = some c := hc
      have q : cellOf env n = pure c := by unfold cellOf; rw [hc']
      simp only [beq_self_eq_true, if_true, q, pure_bind]
      rw [clGo_run r _ fun p hp => h p (List.mem_cons_of_mem _ hp)]
      simp [clGo, hc']
    · have e' : (k == NameKind.free) = false := by simpa using e
      simp only [e', Bool.false_eq_true, if_false, pure_bind]
      rw [clGo_run r _ fun p hp => h p (List.mem_cons_of_mem _ hp)]
      simp [clGo, e]
theorem closure_run {scope : Scope} {env : Env} (h : ∀ p ∈ scope.names, p.2 = NameKind.free → ∃ c, env.cells.lookup p.1 = some c) : closureFor scope env = pure (clOf scope env) := by
  have q := clGo_run (env := env) scope.names [] h
  have e : closureFor scope env = ((forIn scope.names [] fun (x : Str × NameKind) (r : List (Str × Addr)) =>
      (if (x.2 == NameKind.free) = true then (do let c ← cellOf env x.1; pure (ForInStep.yield ((x.1, c) :: r))) else pure (ForInStep.yield r) : Sem (ForInStep (List (Str × Addr))))) >>= fun cs => pure cs) := rfl
  rw [e, q, pure_bind]
  rfl
theorem clGo_look {env : Env} {x : Str} {c : Addr} (hc : env.cells.lookup x = some c) : ∀ (l : List (Str × NameKind)) (cs : List (Str × Addr)),
    ((x, NameKind.free) ∈ l ∨ cs.lookup x = some c) → (clGo env l cs).lookup x = some c
  | [], cs, h => by
    rcases h with h | h
    · exact absurd h (by simp)
    · exact h
  | (n, k) :: r, cs, h => by
    show (clGo env r _).lookup x = some c
    refine clGo_look hc r _ ?_
    rcases h with h | h
    · rcases List.mem_cons.mp h with e | e
      · cases e
        refine .inr ?_
        rw [if_pos rfl, List.lookup_cons, hc]
        simp
      · exact .inl e
    · refine .inr ?_
      by_cases e : k = NameKind.free
      · rw [if_pos e, List.lookup_cons]
        by_cases en : x = n
        · subst en; simp [hc]
        · have : (x == n) = false := by simpa using en
          rw [this]; exact h
      · rw [if_neg e]; exact h
theorem clGo_from {env : Env} {x : Str} {c : Addr} : ∀ (l : List (Str × NameKind)) (cs : List (Str × Addr)),
    (∀ p ∈ l, p.2 = NameKind.free → ∃ c, env.cells.lookup p.1 = some c) → (clGo env l cs).lookup x = some c → env.cells.lookup x = some c ∧ (x, NameKind.free) ∈ l ∨ cs.lookup x = some c
  | [], cs, _, h => .inr h
  | (n, k) :: r, cs, hl, h => by
    have h : (clGo env r (if k = NameKind.free then (n, (env.cells.lookup n).getD 0) :: cs else cs)).lookup x = some c := h
    rcases clGo_from r _ (fun p hp => hl p (List.mem_cons_of_mem _ hp)) h with ⟨a, b⟩ | q
    · exact .inl ⟨a, List.mem_cons_of_mem _ b⟩
    · by_cases e : k = NameKind.free
      · rw [if_pos e, List.lookup_cons] at q
        by_cases en : x = n
        · subst en
          subst e
          obtain ⟨c', hc'⟩ := hl (x, .free) List.mem_cons_self rfl
          have hc' : env.cells.lookup x = some c' := hc'
          rw [hc'] at q
          simp at q
          subst q
          exact .inl ⟨hc', List.mem_cons_self⟩
        · have : (x == n) = false := by simpa using en
          rw [this] at q
          exact .inr q
      · rw [if_neg e] at q
        exact .inr q
theorem freeOk_mem {scope : Scope} {env : Env} (h : freeOk scope env = true) {p : Str × NameKind} (hp : p ∈ scope.names) (hf : p.2 = NameKind.free) : env.kindOf p.1 = some NameKind.cell ∨ env.kindOf p.1 = some NameKind.free := by
  have q := List.all_eq_true.mp h p hp
  rw [hf] at q
  simpa using q
def cxC (X : Cx) (scope : Scope) (N' : List Str) (s : Shared) (H : Hp) (C : Addr) (fp : List Addr) : Cx :=
  { X with N := N', s₀ := s, H₀ := H, env := compEnvC scope (clOf scope X.env) C X.env, outer := X.stack, ex := fp, fn := fun _ => false, pn := [], xe := fun _ _ => False }
def seeσ (fm : List (Option Nat)) (σ : St) : St := fm.map fun o => o.bind fun i => (σ[i]?).join
structure CompSc (X : Cx) (scope : Scope) (N' : List Str) (fm : List (Option Nat)) : Prop where
  kind : scope.kind = .function
  cell : ∀ y ∈ scope.names, y.2 ≠ .cell
  names : ∀ y ∈ scope.names, y.2 = .local → scope.names.lookup y.1 = some .local
  free : freeOk scope X.env = true
  len : N'.length = fm.length
  map : ((N'.zip fm).all fun p => match p.2 with | none => true | some i => (X.N[i]? == some p.1) && (scope.names.lookup p.1 == some NameKind.free)) = true
theorem lookup_relabel {env : Env} {k : NameKind} {x : Str} : ∀ {names : List (Str × NameKind)}, (names.map fun (n, k) => if (k == NameKind.free && env.scope.kind == .function && env.kindOf n == some .cell) then (n, NameKind.cell) else (n, k)).lookup x = some k →
    names.lookup x = some k ∨ (names.lookup x = some NameKind.free ∧ k = NameKind.cell)
  | [], h => by simp at h
  | (n, j) :: r, h => by
    have ih := @lookup_relabel env k x r
    have h : List.lookup x ((if (j == NameKind.free && env.scope.kind == .function && env.kindOf n == some .cell) = true then (n, NameKind.cell) else (n, j)) :: (r.map fun (n, k) => if (k == NameKind.free && env.scope.kind == .function && env.kindOf n == some .cell) then (n, NameKind.cell) else (n, k))) = some k := h
    by_cases hc : (j == NameKind.free && env.scope.kind == .function && env.kindOf n == some .cell) = true
    · rw [if_pos hc, List.lookup_cons] at h
      rw [List.lookup_cons]
      cases hx : x == n with
      | true =>
        rw [hx] at h
        simp at h
        refine .inr ⟨?_, h.symm⟩
        have : (j == NameKind.free) = true := by
          simp only [Bool.and_eq_true] at hc
          exact hc.1.1
        have e : j = NameKind.free := by simpa using this
        rw [e]
      | false =>
        rw [hx] at h
        exact ih h
    · rw [if_neg hc, List.lookup_cons] at h
      rw [List.lookup_cons]
      cases hx : x == n with
      | true => rw [hx] at h; exact .inl h
      | false => rw [hx] at h; exact ih h
theorem relabel_free {env : Env} {x : Str} : ∀ {names : List (Str × NameKind)}, names.lookup x = some NameKind.free →
    (names.map fun (n, k) => if (k == NameKind.free && env.scope.kind == .function && env.kindOf n == some .cell) then (n, NameKind.cell) else (n, k)).lookup x = some .cell ∨
    (names.map fun (n, k) => if (k == NameKind.free && env.scope.kind == .function && env.kindOf n == some .cell) then (n, NameKind.cell) else (n, k)).lookup x = some .free
  | [], h => by simp at h
  | (n, j) :: r, h => by
    have ih := @relabel_free env x r
    show List.lookup x ((if (j == NameKind.free && env.scope.kind == .function && env.kindOf n == some .cell) = true then (n, NameKind.cell) else (n, j)) :: _) = _ ∨ List.lookup x ((if (j == NameKind.free && env.scope.kind == .function && env.kindOf n == some .cell) = true then (n, NameKind.cell) else (n, j)) :: _) = _
    rw [List.lookup_cons] at h
    cases hx : x == n with
    | true =>
      rw [hx] at h
      have e : j = NameKind.free := by simpa using h
      by_cases hc : (j == NameKind.free && env.scope.kind == .function && env.kindOf n == some .cell) = true
      · rw [if_pos hc]; exact .inl (by rw [List.lookup_cons, hx])
      · rw [if_neg hc]; exact .inr (by rw [List.lookup_cons, hx, e])
    | false =>
      rw [hx] at h
      by_cases hc : (j == NameKind.free && env.scope.kind == .function && env.kindOf n == some .cell) = true
      · rw [if_pos hc, List.lookup_cons, hx]; exact ih h
      · rw [if_neg hc, List.lookup_cons, hx]; exact ih h
theorem mem_of_look {α : Type} {x : Str} {k : α} : ∀ {l : List (Str × α)}, l.lookup x = some k → (x, k) ∈ l := fun h => PySem.mem_of_lookup h
section
variable {X : Cx} {pins : List (Addr × Obj)} {σ : St} {H H' : Hp} {s : Shared} {scope : Scope} {N' : List Str} {fm : List (Option Nat)} {fp : List Addr} {h' : Heap} {tk : Nat}
theorem CompSc.cells (S : CompSc X scope N' fm) (I : Inv X pins σ H s) : ∀ p ∈ scope.names, p.2 = NameKind.free → ∃ c, X.env.cells.lookup p.1 = some c := fun p hp hf => I.ok.has p.1 (freeOk_mem S.free hp hf)
theorem CompSc.look (S : CompSc X scope N' fm) (I : Inv X pins σ H s) {x : Str} {c : Addr} (h : (clOf scope X.env).lookup x = some c) : X.env.cells.lookup x = some c ∧ (x, NameKind.free) ∈ scope.names := by
  rcases clGo_from scope.names [] (S.cells I) h with q | q
  · exact q
  · simp at q
theorem comp_start (S : CompSc X scope N' fm) (I : Inv X pins σ H s) (hf : ∀ b ∈ fp, FpOk X pins H b) (hfs : ∀ b ∈ fp, b < s.heap.objs.size)
    (hn : h'.Ns s.heap.objs.size fun _ => none) (hk : ∀ b o, s.heap.get? b = some o → h'.get? b = some o) : Inv (cxC X scope N' s H s.heap.objs.size fp) [] (seeσ fm σ) H { s with heap := h', toks := tk } := by
  have cl : ∀ {x c}, (clOf scope X.env).lookup x = some c → X.env.cells.lookup x = some c ∧ (x, NameKind.free) ∈ scope.names := fun h => S.look I h
  have ltc : ∀ x c, X.env.cells.lookup x = some c → c < s.heap.objs.size := fun x c e => by
    obtain ⟨v, q⟩ := I.cell x c e
    exact q.lt
  refine ⟨⟨I.ok.mod, ?_, I.ok.glob, I.ok.blt, Nat.le_refl _, fun x y c h1 h2 => I.ok.inj x y c (cl h1).1 (cl h2).1, fun x hx => ?_, fun x c h _ => absurd (show false = true from h) (by decide), I.ok.hd, I.ok.frames, .inl rfl, fun b hb => ⟨Nat.ne_of_lt (hfs b hb), fun x c e z => ?_⟩, I.bs, Nat.le_trans I.ok.bsz I.sz, fun b o e hb => ?_, fun b hb z => ?_, I.stack, I.stkFree⟩,
    rfl, I.bare, Un.kept hk, ⟨_, hn, fun i x v e1 e2 e3 => ?_⟩, fun x c e => ?_, I.hok.fresh (Nat.le_refl _), fun x c e => I.freeC x c (cl e).1, fun p hp => absurd (show p ∈ ([] : List (Addr × Obj)) from hp) (by simp), I.hok.kept hk, ?_⟩
  · exact S.kind
  · -- a cell for each name
    have hx : (relabel scope X.env).names.lookup x = some .cell ∨ (relabel scope X.env).names.lookup x = some .free := hx
    have fr : scope.names.lookup x = some .free := by
      rcases hx with hx | hx
      · rcases lookup_relabel hx with q | q
        · exact absurd rfl (S.cell _ (mem_of_look q))
        · exact q.1
      · rcases lookup_relabel hx with q | q
        · exact q
        · exact q.1
    have m := mem_of_look fr
    obtain ⟨c, hc⟩ := S.cells I (x, .free) m rfl
    exact ⟨c, clGo_look hc _ _ (.inl m)⟩
  · exact (hf b hb).2.2.2.2.1 x c (cl e).1 z
  · rcases (hf b hb).2.2.2.1 with z | z
    · exact I.ok.noex b o e z
    · exact absurd (Nat.lt_of_lt_of_le (Heap.lt_size (I.ok.bs b o e).1) z) (Nat.lt_irrefl _)
  · rcases List.mem_cons.mp (I.stkSub b z) with q | q
    · exact (hf b hb).2.1 q
    · exact (hf b hb).2.2.1 q
  · -- a name of the def, seen in the block
    have e1 : N'[i]? = some x := e1
    have il : i < fm.length := by rw [← S.len]; exact (List.getElem?_eq_some_iff.mp e1).1
    have ef : fm[i]? = some fm[i] := by simp [il]
    unfold seeσ at e2
    rw [List.getElem?_map, ef] at e2
    cases q : fm[i] with
    | none => rw [q] at e2; simp at e2
    | some j =>
      rw [q] at e2 ef
      have e2 : (σ[j]?).join = some v := by simpa using e2
      have e2' : σ[j]? = some (some v) := by
        cases z : σ[j]? with
        | none => rw [z] at e2; simp at e2
        | some w => rw [z] at e2; simp at e2; rw [e2]
      have mz : (x, some j) ∈ N'.zip fm := by
        have : (N'.zip fm)[i]? = some (x, some j) := by rw [List.getElem?_zip_eq_some]; exact ⟨e1, ef⟩
        exact List.mem_of_getElem? this
      have ok := List.all_eq_true.mp S.map _ mz
      simp only [Bool.and_eq_true, beq_iff_eq] at ok
      have kx := freeOk_mem S.free (mem_of_look ok.2) rfl
      obtain ⟨m, hm, hl⟩ := I.loc
      obtain ⟨u, ru, lk⟩ := hl j x v ok.1 e2' (by rcases kx with k | k; exact .inr (.inl k); exact .inr (.inr k))
      refine ⟨u, ru, .inr ?_⟩
      rcases lk with ⟨k, _⟩ | ⟨_, c, hc, ⟨o, ho, hd⟩⟩
      · rcases kx with z | z
        · rw [z] at k; cases k
        · rw [z] at k; cases k
      · exact ⟨relabel_free ok.2, c, clGo_look hc _ _ (.inl (mem_of_look ok.2)), o, hk _ _ ho, hd⟩
  · obtain ⟨v, o, ho, hd⟩ := I.cell x c (cl e).1
    exact ⟨v, o, hk _ _ ho, hd⟩
  · show (seeσ fm σ).length = N'.length
    unfold seeσ
    rw [List.length_map, S.len]
theorem comp_back {σ' : St} {s1 s2 : Shared} {p1 : List (Addr × Obj)} (I : Inv X pins σ H s) (hf : ∀ b ∈ fp, FpOk X pins H b) (J : Inv (cxC X scope N' s H s.heap.objs.size fp) p1 σ' H' s1) (hs : s2.os = s1.os) (hg : AllBare s2.gens)
    (hh : Heap.SameBut s.heap.objs.size s1.heap s2.heap) : Inv X pins σ H' s2 := by
  have un : Un (frs X.stack) fp H H' s.heap s1.heap := J.base
  have hne : ∀ b o, s.heap.get? b = some o → b ≠ s.heap.objs.size := fun b o e => Nat.ne_of_lt (Heap.lt_size e)
  have free' : H' s.heap.objs.size = none := J.free
  refine I.call' (ch := fp) (hs.trans J.os) ⟨fun b o e n hb hx => ?_, fun b o e n hb hx => ?_, un.free, fun b o e hx => ?_, un.tups, un.frzs, un.tbls⟩ (fun b o e => ?_) hg fun b hb => ?_
  · exact (hh.2 b (hne b o e)).trans (un.keep b o e n hb hx)
  · obtain ⟨sl, q⟩ := un.slot b o e n hb hx
    exact ⟨sl, (hh.2 b (hne b o e)).trans q⟩
  · obtain ⟨o', q⟩ := un.there b o e hx
    exact ⟨o', (hh.2 b (hne b o e)).trans q⟩
  · refine (J.hok b o e).stay (fun c v hc q => (hh.2 c ?_).trans q) (fun _ q => q) fun _ _ q => q
    rintro rfl
    rcases hc with z | z
    · rw [← z, free'] at e; cases e
    · rw [free'] at z; cases z
  · obtain ⟨_, f1, _, f3, f4, f5⟩ := hf b hb
    exact ⟨f3, f1, f4, f5⟩
end
end L2
set_option Elab.async false
set_option linter.all false
set_option maxRecDepth 100000
set_option maxHeartbeats 4000000
namespace L2
open PySem PySem.Spec PyProof.Rows
def PIfs (X : Cx) (ifs : List Expr) (t : TT) : Prop :=
  ∀ (pins : List (Addr × Obj)) (s : Shared) (σ : St) (H : Hp) (Q : Bool → Hp → Prop), Inv X pins σ H s → t σ H Q →
    wpAny (model X.prog X.w) X.A (forIn ifs true fun c r => if r = true then do let ok ← isTrue c X.env (eval c X.env); pure (ForInStep.yield ok) else pure (ForInStep.yield r)) (TP X pins σ Q) X.xe s
def tAll : TT := fun _ H Q => Q true H
theorem pif_nil {X : Cx} : PIfs X [] tAll := fun _ _ _ H _ I h => wpAny_tests_nil ⟨H, I, h⟩
theorem pif_one {X : Cx} {c : Expr} {t : TT} (h : PT X c t) : PIfs X [c] t := fun pins s σ H Q I q => wpAny_tests_one (h pins s σ H Q I q)
def tBlk (J : It) (p : Addr) (g : TG) (tt : TT) (te : TE) (σ0 : St) (H0 : Hp) (Q : Hp → Prop) : Prop :=
  ∃ W : Nat → Nat → St → Hp → Prop, (∃ m, W 0 m σ0 H0) ∧ ∀ i m σ H, W i m σ H →
    (J.stop i H ∧ Q H) ∨ (J.go i H ∧ ∃ N : St → Hp → Prop, (∀ σ' H', N σ' H' → ∃ m', m' < m ∧ W (i + 1) m' σ' H') ∧ ∀ x H1, J.yld i H x H1 → g x σ H1 fun σ2 H2 => tt σ2 H2 fun b H3 =>
      if b = true then te σ2 H3 fun v H4 => ∃ ys, H4 p = some (.lst ys) ∧ ys.length < sizeLine ∧ N σ2 (upd H4 p (.lst (ys ++ [v])))
      else N σ2 H3)
def tComp (fm : List (Option Nat)) (wi : TI) (g : TG) (tt : TT) (te : TE) : TE := fun σ H Q => wi σ H fun J H1 => ∀ p, H1 p = none →
  tBlk J p g tt te (seeσ fm σ) (upd H1 p (.lst [])) fun H2 => Q (.ref p) H2
section
variable {X : Cx} {elt iter tg : Expr} {ifs : List Expr} {scope : Scope} {pos : Pos} {N' : List Str} {fm : List (Option Nat)} {wi : TI} {g : TG} {tt : TT} {te : TE}
theorem comp_loop {R : Result → Shared → Prop} {pins : List (Addr × Obj)} {σ : St} {H : Hp} {s s1 : Shared} {it p C : Addr} {fp : List Addr} {tn : Nat → Heap → Prop} {J : It} {Q : Hp → Prop} {H0 : Hp} {σ0 : St}
    (hc : X.calm = true) (hg : PG (cxC X scope N' s H C fp) tg g) (ht : PIfs (cxC X scope N' s H C fp) ifs tt) (he : PE (cxC X scope N' s H C fp) elt te)
    (T : Turn X.prog X.w X.K tg J fp it tn) (hfp : ∀ {H' : Hp}, (∀ b ∈ fp, H' b = none) → ∀ b ∈ fp, FpOk (cxC X scope N' s H C fp) [] H' b)
    (I : Inv (cxC X scope N' s H C fp) [] σ0 H0 s1) (st : tn 0 s1.heap) (hfr : ∀ b ∈ fp, H0 b = none) (blk : tBlk J p g tt te σ0 H0 Q)
    (hR : ∀ σ' H' s', Inv (cxC X scope N' s H C fp) [] σ' H' s' → Q H' → R (.ok .next) s') :
    codeAny (model X.prog X.w) X.A (.compLoop (.ListComp elt [⟨tg, iter, ifs, 0⟩] scope pos) 0 (.ref it) (.ref p) (compEnvC scope (clOf scope X.env) C X.env)) R s1 := by
  obtain ⟨W, ⟨m0, w0⟩, turn⟩ := blk
  refine codeAny_loop rfl (fun n s' => ∃ i σ' H', Inv (cxC X scope N' s H C fp) [] σ' H' s' ∧ tn i s'.heap ∧ (∀ b ∈ fp, H' b = none) ∧ W i n σ' H') (fun n s2 hI => ?_) m0 ⟨0, σ0, H0, I, st, hfr, w0⟩
  obtain ⟨i, σ2, H2, I2, st2, fr2, w2⟩ := hI
  show wpAny _ X.A ((compTurn (.ListComp elt [⟨tg, iter, ifs, 0⟩] scope pos) 0 (.ref it) (.ref p) (compEnvC scope (clOf scope X.env) C X.env)).onRaise fun x => do noteFrame x (compEnvC scope (clOf scope X.env) C X.env); theTreesLotGoes x) _ _ s2
  refine wpAny_noted ?_
  rw [compTurn_list]
  have lift : ∀ {α : Type} {t : Sem α} {Q1 Q2 : α → Shared → Prop} {E2 : Value → Shared → Prop} {s' : Shared}, wpAny (model X.prog X.w) X.A t Q1 (fun _ _ => False) s' → (∀ a s'', Q1 a s'' → Q2 a s'') → wpAny (model X.prog X.w) X.A t Q2 E2 s' :=
    fun h k => wpAny_mono h k fun _ _ z => z.elim
  rcases turn i n σ2 H2 w2 with ⟨stop, qn⟩ | ⟨go, N, hN, step⟩
  · refine wpAny_bind (wpAny_standAt (wpAny_bind (lift (T.done (cxC X scope N' s H C fp) rfl rfl rfl hc i [] s2 σ2 H2 _ I2 (hfp fr2) st2 stop) fun r s3 q => ?_)))
    obtain ⟨hr, I3⟩ := q
    subst hr
    exact wpAny_pure (hR σ2 H2 s3 I3 qn)
  · refine wpAny_bind (wpAny_standAt (wpAny_bind (lift (T.item (cxC X scope N' s H C fp) rfl rfl rfl hc i [] s2 σ2 H2 _ I2 (hfp fr2) st2 go) fun r s3 q => ?_)))
    obtain ⟨u, hr, h3⟩ := q
    subst hr
    refine wpAny_bind (lift h3 fun _ s4 q4 => ?_)
    obtain ⟨x, H4, I4, r4, y4, st4, fr4⟩ := q4
    have I4' := I4.pinned (hfp fr4) (T.obj _ _ st4)
    refine wpAny_bind (lift (hg _ s4 σ2 H4 x u _ I4' r4 (step x H4 y4)) fun _ s5 q5 => ?_)
    obtain ⟨σ5, H5, I5, q5⟩ := q5
    refine wpAny_bind (lift (ht _ s5 σ5 H5 _ I5 q5) fun b s6 q6 => ?_)
    obtain ⟨H6, I6, q6⟩ := q6
    have again : ∀ {σ7 : St} {H7 : Hp} {s7 : Shared} {m' : Nat}, Inv (cxC X scope N' s H C fp) ([] ++ pinsAt fp s4.heap) σ7 H7 s7 → W (i + 1) m' σ7 H7 →
        ∃ i σ' H', Inv (cxC X scope N' s H C fp) [] σ' H' s7 ∧ tn i s7.heap ∧ (∀ b ∈ fp, H' b = none) ∧ W i m' σ' H' := fun {σ7 H7 s7 m'} I7 w7 => by
      refine ⟨i + 1, σ7, H7, I7.unpinned, T.keep _ _ _ st4 fun b hb o e => (I7.pin (b, o) (List.mem_append_right _ (List.mem_append_right _ (mem_pinsAt hb e)))).1, fun b hb => ?_, w7⟩
      obtain ⟨o, e, d⟩ := T.obj _ _ st4 b hb
      exact (I7.pin (b, o) (List.mem_append_right _ (List.mem_append_right _ (mem_pinsAt hb e)))).2.1
    cases b with
    | false =>
      rw [if_neg Bool.false_ne_true] at q6
      obtain ⟨m', hm, w7⟩ := hN _ _ q6
      exact wpAny_pure ⟨rfl, m', hm, again I6 w7⟩
    | true =>
      rw [if_pos rfl] at q6
      refine wpAny_bind (wpAny_bind (lift (he _ s6 σ5 H6 _ I6 q6) fun u s7 q7 => ?_))
      obtain ⟨v, H7, I7, r7, ys, hp, hz, n7⟩ := q7
      obtain ⟨m', hm, w7⟩ := hN _ _ n7
      have ap := mt_append (X := cxC X scope N' s H C fp) ([] ++ pinsAt fp s4.heap) s7 σ5 H7 (.ref p) [v] (.ref p) [u] (fun _ H8 => W (i + 1) m' σ5 H8) I7 rfl (.cons r7 .nil) ⟨p, ys, v, rfl, rfl, hp, hz, w7⟩
      refine wpAny_bind (lift ap fun _ s8 q8 => ?_)
      obtain ⟨_, H8, I8, _, w8⟩ := q8
      exact wpAny_pure (wpAny_pure ⟨rfl, m', hm, again I8 w8⟩)
end
section
variable {K : PySem.W.Frag} {p : Addr} {g : TG} {tt : TT} {te : TE} {σ0 : St} {H0 : Hp} {Q : Hp → Prop}
def BlkTurn (p : Addr) (g : TG) (tt : TT) (te : TE) (N : St → Hp → Prop) (x : V) (σ : St) (H : Hp) : Prop :=
  g x σ H fun σ2 H2 => tt σ2 H2 fun b H3 => if b = true then te σ2 H3 fun v H4 => ∃ ys, H4 p = some (.lst ys) ∧ ys.length < sizeLine ∧ N σ2 (upd H4 p (.lst (ys ++ [v]))) else N σ2 H3
theorem blk_range {lo : Int} {n : Nat} (Pv : Nat → St → Hp → Prop) (h0 : Pv 0 σ0 H0) (hs : ∀ i σ H, i < n → Pv i σ H → BlkTurn p g tt te (Pv (i + 1)) (.int (lo + i)) σ H) (hd : ∀ σ H, Pv n σ H → Q H) : tBlk (Itr lo n) p g tt te σ0 H0 Q := by
  refine ⟨fun i m σ H => m = n - i ∧ i ≤ n ∧ Pv i σ H, ⟨n, by simp, Nat.zero_le _, h0⟩, ?_⟩
  rintro i m σ H ⟨rfl, hi, q⟩
  by_cases hlt : i < n
  · refine .inr ⟨hlt, Pv (i + 1), fun σ' H' r => ⟨n - (i + 1), by omega, rfl, hlt, r⟩, fun x H' y => ?_⟩
    obtain ⟨e, y⟩ := y
    subst e y
    exact hs i σ _ hlt q
  · have e : i = n := by omega
    subst e
    exact .inl ⟨Nat.le_refl _, hd σ H q⟩
end
end L2
set_option Elab.async false
set_option linter.all false
set_option maxRecDepth 100000
set_option maxHeartbeats 4000000
namespace L2
open PySem PySem.Spec PyProof.Rows
section
variable {X : Cx} {elt iter tg : Expr} {ifs : List Expr} {scope : Scope} {pos : Pos} {N' : List Str} {fm : List (Option Nat)} {wi : TI} {g : TG} {tt : TT} {te : TE}
theorem comp_block {RR : Value → Addr → Result → Shared → Prop} {pins : List (Addr × Obj)} {σ : St} {H : Hp} {s : Shared} {it : Addr} {fp : List Addr} {tn : Nat → Heap → Prop} {J : It} {Q : Addr → Hp → Prop} {E : Value → Shared → Prop}
    (hc : X.calm = true) (S : CompSc X scope N' fm) (hg : ∀ s H C fp, PG (cxC X scope N' s H C fp) tg g) (ht : ∀ s H C fp, PIfs (cxC X scope N' s H C fp) ifs tt) (he : ∀ s H C fp, PE (cxC X scope N' s H C fp) elt te)
    (T : Turn X.prog X.w X.K tg J fp it tn) (I : Inv X pins σ H s) (st : tn 0 s.heap) (hf : ∀ b ∈ fp, FpOk X pins H b)
    (blk : ∀ p, H p = none → tBlk J p g tt te (seeσ fm σ) (upd H p (.lst [])) (Q p))
    (hR : ∀ p C H' s' (m : Str → Option Value), s'.heap.Ns C m → (∀ h', Heap.SameBut C s'.heap h' → Inv X pins σ H' { s' with heap := h' }) → FpOk X pins H' C → Q p H' → Inv X pins σ H' s' → RR (.ref p) C (.ok .next) s') :
    wpAny (model X.prog X.w) X.A (newList []) (fun acc s₃ => wpAny (model X.prog X.w) X.A (newFunctionEnv scope X.env.globals (clOf scope X.env) [] X.env.qual none .none (some X.env)) (fun cenv s₄ =>
      codeAny (model X.prog X.w) X.A (.compStart (.ListComp elt [⟨tg, iter, ifs, 0⟩] scope pos) 0 (.ref it) acc { cenv with scope := relabel scope X.env }) (RR acc cenv.locals) s₄) E s₃) E s := by
  have I1 : Inv X pins σ (upd H s.heap.objs.size (.lst [])) { s with heap := s.heap.push { cls := .type "list", data := .seq ([] : List Value).toArray } } := I.lnew (t' := s.toks) .nil (Nat.zero_le _)
  have hb := blk _ I.fresh
  refine wpAny_newObj_type (wpAny_newFunctionEnv S.cell (by intro y hy; simp at hy) (fun h1 hn1 hs1 => ?_) S.kind)
  dsimp only at hn1 hs1 ⊢
  generalize hq : s.heap.push { cls := .type "list", data := .seq ([] : List Value).toArray } = h2 at hn1 hs1 I1 ⊢
  have sz : h2.objs.size = s.heap.objs.size + 1 := by rw [← hq, Heap.size_push]
  have old : ∀ b o, h2.get? b = some o → h1.get? b = some o := fun b o e => hs1.extBut b o (Nat.ne_of_lt (Heap.lt_size e)) (Heap.get?_push_of_some _ e)
  have old0 : ∀ b o, s.heap.get? b = some o → h2.get? b = some o := fun b o e => hq ▸ Heap.get?_push_of_some _ e
  have lt0 : ∀ b ∈ fp, b < s.heap.objs.size := fun b hb => by
    obtain ⟨o, e, _⟩ := T.obj _ _ st b hb
    exact Heap.lt_size e
  have hf1 : ∀ b ∈ fp, FpOk X pins (upd H s.heap.objs.size (.lst [])) b := fun b hb => by
    obtain ⟨f0, f⟩ := hf b hb
    exact ⟨by rw [upd_ne (Nat.ne_of_lt (lt0 b hb))]; exact f0, f⟩
  have lt2 : ∀ b ∈ fp, b < h2.objs.size := fun b hb => by rw [sz]; exact Nat.lt_succ_of_lt (lt0 b hb)
  have J0 := comp_start (s := { s with heap := h2 }) (h' := h1) (tk := s.toks) (fp := fp) S I1 hf1 lt2 hn1 old
  have st1 : tn 0 h1 := T.keep _ _ _ st fun b _ o e => old b o (old0 b o e)
  have fpok : ∀ {H' : Hp}, (∀ b ∈ fp, H' b = none) → ∀ b ∈ fp, FpOk (cxC X scope N' { s with heap := h2 } (upd H s.heap.objs.size (.lst [])) h2.objs.size fp) [] H' b := fun {H'} hn b hb => by
    refine ⟨hn b hb, Nat.ne_of_lt (lt2 b hb), fun z => ?_, .inl hb, fun x c e z => ?_, fun p hp => absurd (show p ∈ ([] : List (Addr × Obj)) from hp) (by simp)⟩
    · rcases List.mem_cons.mp (I.stkSub b z) with q | q
      · exact (hf b hb).2.1 q
      · exact (hf b hb).2.2.1 q
    · exact (hf b hb).2.2.2.2.1 x c (S.look I e).1 z
  have loop := comp_loop (iter := iter) (pos := pos) (R := RR (.ref s.heap.objs.size) h2.objs.size) (σ := σ) (pins := pins) hc (hg _ _ _ _) (ht _ _ _ _) (he _ _ _ _) T fpok J0 st1 (fun b hb => (hf1 b hb).1) hb fun σ' H' s' Jv qv => by
    obtain ⟨m, hm, _⟩ := Jv.loc
    exact hR _ _ H' s' m hm (fun h' sb => comp_back (s := { s with heap := h2 }) I1 hf1 Jv rfl Jv.bare sb) (I1.fpOk (Nat.le_refl _) Jv.free) qv (comp_back (s := { s with heap := h2 }) I1 hf1 Jv rfl Jv.bare (Heap.SameBut.refl ..))
  exact codeAny_compStart_list loop (T.self _ 0 _ _ _ st1 loop)
theorem pe_comp (hc : X.calm = true) (S : CompSc X scope N' fm) (hi : PI X tg iter wi) (hg : ∀ s H C fp, PG (cxC X scope N' s H C fp) tg g) (ht : ∀ s H C fp, PIfs (cxC X scope N' s H C fp) ifs tt)
    (he : ∀ s H C fp, PE (cxC X scope N' s H C fp) elt te) (hs : ∀ x, foldedSetIterable iter X.env x = pure x := by intro _; rfl) :
    PE X (.ListComp elt [⟨tg, iter, ifs, 0⟩] scope pos) (tComp fm wi g tt te) := by
  intro pins s σ H Q I h
  rw [eval_ListComp]
  refine wpAny_comprehension_free (use := none) rfl hs (closure_run (S.cells I)) S.kind S.names (thn (hi pins s σ H _ I h) fun v s1 h1 => thn h1 fun itv s2 h2 => ?_)
  obtain ⟨it, fp, tn, J, H2, e, I2, T, st2, f2, blk⟩ := h2
  subst e
  refine comp_block (RR := fun acc C => compPost (model X.prog X.w) X.A X.xe none (EP X pins σ Q) acc C) (Q := fun p H' => Q (.ref p) H') hc S hg ht he T I2 st2 f2 blk ?_
  intro p C H' s' m hm back _ q _
  exact ⟨m, hm, fun h' sb => ⟨.ref p, H', back h' sb, rfl, q⟩⟩
end
end L2
set_option Elab.async false
set_option linter.all false
set_option maxRecDepth 100000
set_option maxHeartbeats 4000000
namespace L2
open PySem PySem.Spec PySem.W
section
variable {prog : Program} {w : World} {A : Around} {R : Result → Shared → Prop} {h : Heap} {g : Array GenState} {d : Drawn} {t : Nat} {os : OsState}
variable {nm q : Str} {C N f : Addr} {bs bm : List Value} {hdct : Bool} {sn : List Str} {sub : List Value} {ab : Bool} {col : Option Bool} {dd : Option Addr} {k0 k1 k2 k3 k5 : Option Value}
abbrev xObj (C tu : Addr) : Obj := { cls := .ref C, data := .fields #[.ref tu, .none, .none, .none, .bool false, .none] }
abbrev xTup (us : List Value) : Obj := { cls := .type "tuple", data := .seq us.toArray }
structure XBases (bm : List Value) : Prop where
  ve : bm.contains (.type "ValueError") = true
  be : bm.contains (.type "BaseException") = true
  ae : bm.contains (.type "AttributeError") = false
  ne : bm.contains (.type "NameError") = false
  ob : bm.contains (.type "object") = true
  rf : ∀ self : Value, refuseLoop self "__setattr__" bm = pure ()
theorem x_check (B : XBases bm) {M : Model} {E : Value → Shared → Prop} {us : List Value} {Q : Unit → Shared → Prop} (hC : h.get? C = some (excClassObj nm q C N bs bm hdct sn sub ab col dd k0 k1 k2 k3 k5 "ValueError.__new__"))
    (hq : Q () ⟨h, g, d, t, os⟩) : wpAny M A (checkBuiltinCall "ValueError.__new__" ⟨.ref C :: us, []⟩) Q E ⟨h, g, d, t, os⟩ := by
  have FV := PySem.F.excBase_ValueError
  have c1 : (Value.ref C :: bm).contains (.type "ValueError") = true := by rw [List.contains_cons, B.ve, Bool.or_true]
  have c2 := FV.noStar
  simp only [checkBuiltinCall, FV.newKind, FV.newSplit, FV.newRow]
  repeat (first | refine wpAny_loadPart_at hC ?_ | (refine wpAny_isSubtype_exc hC ?_; rw [c1]) | refine wpAny_staticBase_exc hC ?_ | refine wpAny_madeBy_exc hC ?_ | (simp only [bne_self_eq_false, Bool.false_eq_true, if_false]) | wp_step)
  exact hq
theorem x_new (B : XBases bm) {us : List Value} (hC : h.get? C = some (excClassObj nm q C N bs bm hdct sn sub ab col dd k0 k1 k2 k3 k5 "ValueError.__new__"))
    (hq : R (.ok (.ret (.ref (h.objs.size + 1)))) ⟨(h.push (xTup us)).push (xObj C h.objs.size), g, d, t, os⟩) (hus : us.length ≤ sizeLine) :
    codeAny (model prog w) A (.builtin "ValueError.__new__" ⟨.ref C :: us, []⟩) R ⟨h, g, d, t, os⟩ := by
  have FV := PySem.F.excBase_ValueError
  have e1 := FV.ends
  have c1 : (Value.ref C :: bm).contains (.type "ValueError") = true := by rw [List.contains_cons, B.ve, Bool.or_true]
  have c2 : (Value.ref C :: bm).contains (.type "AttributeError") = false := by rw [List.contains_cons, B.ae]; rfl
  have c3 : (Value.ref C :: bm).contains (.type "NameError") = false := by rw [List.contains_cons, B.ne]; rfl
  refine codeAny_builtinAt FV.entry ?_
  unfold Builtin.«BaseException.__new__»
  refine PySem.wpAt_bind ?_
  show PySem.wpAt _ _ _ (stack >>= _) _ _ _
  refine PySem.wpAt_bind (PySem.wpAt_stack fun a b => PySem.wpAt_of_wpAny ?_)
  wp_walk
  refine PySem.wpAt_of_wpAny ?_
  rw [FV.owner]
  repeat (first | with_reducible refine wpAny_madeHere_exc FV.canon hC ?_ | with_reducible refine wpAny_loadPart_at hC ?_ | (with_reducible refine wpAny_isSubtype_exc hC ?_; first | rw [c1] | rw [c2] | rw [c3]) | wp_step)
  show R _ _
  rw [Heap.size_push]
  exact hq
theorem x_make (B : XBases bm) {us : List Value} (hC : h.get? C = some (excClassObj nm q C N bs bm hdct sn sub ab col dd k0 k1 k2 k3 k5 "ValueError.__new__"))
    (hi : Looks (model prog w) h (typeLookup (.ref C) "__init__") (some (.ref f))) (hb : ∀ self, Looks (model prog w) h (bindSpecial (.ref f) self) (.ref f, [self])) (hus : us.length ≤ sizeLine)
    (hq : codeAny (model prog w) (A.under (.builtin "type.__call__" ⟨.ref C :: us, []⟩)) (.call (.ref f) ⟨.ref (h.objs.size + 1) :: us, []⟩) (InitBack (h.objs.size + 1) R) ⟨(h.push (xTup us)).push (xObj C h.objs.size), g, d, t, os⟩) :
    codeAny (model prog w) A (.call (.ref C) ⟨us, []⟩) R ⟨h, g, d, t, os⟩ := by
  have f1 := tc_lookup
  have f2 := tc_bind (.ref C)
  have hT : (⟨h, g, d, t, os⟩ : Shared).TypeIs (.ref C) "type" := ⟨_, hC, rfl⟩
  refine codeAny_of_tree ?_
  show wpAny _ _ (callAny (.ref C) _) _ _ _
  repeat (any_goals (first | assumption | with_reducible refine wpAny_loadPart_at hC ?_ | wp_step))
  refine ⟨rfl, ?_⟩
  refine codeAny_call_builtin_at (Code.quiet_builtin _ (by decide +kernel)) entry_typeCall (wpAny_check_type_call_sub hC ?_)
  repeat (first | with_reducible refine wpAny_loadPart_at hC ?_ | with_reducible refine wpAny_madeBy_exc hC ?_ | wp_step)
  refine codeAny_call_builtin_code (Code.quiet_builtin _ PySem.F.excBase_ValueError.quiet) (x_check B hC (x_new B hC ?_ hus))
  show wpAny _ _ _ _ _ _
  have k : ∀ b o, h.get? b = some o → ((h.push (xTup us)).push (xObj C h.objs.size)).get? b = some o := fun b o e => Heap.get?_push_of_some _ (Heap.get?_push_of_some _ e)
  have hC1 := k _ _ hC
  have hx : ((h.push (xTup us)).push (xObj C h.objs.size)).get? (h.objs.size + 1) = some (xObj C h.objs.size) := by heap_get
  have cC : (Value.ref C :: bm).contains (.ref C) = true := by simp
  have i1 := hi.keeps k
  have b1 := (hb (.ref (h.objs.size + 1))).keeps k
  have t1 : Looks (model prog w) ((h.push (xTup us)).push (xObj C h.objs.size)) (typeOf (.ref (h.objs.size + 1))) (.ref C) := (Looks.ld hx).andThen .now
  unfold isInstance
  repeat (first | with_reducible refine wpAny_loadPart_at hx ?_ | (with_reducible refine wpAny_isSubtype_exc hC1 ?_; rw [cC]) | wp_step)
  show wpAny _ _ (isSubtype (.ref C) (.ref C)) _ _ ⟨(h.push (xTup us)).push (xObj C h.objs.size), g, d, t, os⟩
  refine wpAny_isSubtype_exc hC1 ?_
  rw [cC]
  unfold callSpecial? specialOf
  simp only [Bool.not_true, Bool.false_eq_true, if_false]
  repeat (first | with_reducible refine wpAny_call ?_ | lk)
  refine codeAny_mono hq fun r s' z => ?_
  rcases r with e | (v | _ | _ | _) <;> first | exact z | exact z.elim | skip
  obtain ⟨rfl, z⟩ := z
  exact wpAny_pure (wpAny_pure z)
end
end L2
set_option Elab.async false
set_option linter.all false
set_option maxRecDepth 100000
set_option maxHeartbeats 4000000
namespace L2
open PySem PySem.Spec PyProof.Rows
def XData (C : Addr) (dx : Option Addr) (tb : Value) (a0 : Addr) : Obj := { cls := .ref C, dict := dx, data := .fields #[.ref a0, tb, .none, .none, .bool false, .none] }
def XO (C : Addr) (dx : Option Addr) (tb : Value) (ea : Addr) : HO := .ext fun h => ∃ a0, h.get? ea = some (XData C dx tb a0)
def TB (fl : Value) (T : Addr) : HO := .ext fun h => ∃ o ts, h.get? T = some o ∧ o.data = .fields ts ∧ ts[3]? = some fl
section
variable {P : Program} {w : World} {H : Hp} {h : Heap} {C ea T : Addr} {dx : Option Addr} {tb fl : Value}
theorem XO.mk {a0 : Addr} (e : h.get? ea = some (XData C dx tb a0)) : ObjOk P w H h ea (XO C dx tb ea) := ⟨⟨a0, e⟩, ⟨_, e⟩, fun _ _ ⟨a, q⟩ k => ⟨a, k _ q⟩⟩
theorem TB.mk {o : Obj} {ts : Array Value} (e : h.get? T = some o) (d : o.data = .fields ts) (q : ts[3]? = some fl) : ObjOk P w H h T (TB fl T) := ⟨⟨o, ts, e, d, q⟩, ⟨_, e⟩, fun _ _ ⟨o, ts, e, d, q⟩ k => ⟨o, ts, k _ e, d, q⟩⟩
theorem XO.at (ok : HOk P w H h) (e : H ea = some (XO C dx tb ea)) : ∃ a0, h.get? ea = some (XData C dx tb a0) := (ok ea _ e).1
theorem TB.at (ok : HOk P w H h) (e : H T = some (TB fl T)) : ∃ o ts, h.get? T = some o ∧ o.data = .fields ts ∧ ts[3]? = some fl := (ok T _ e).1
theorem upd_id {a : Addr} {o : HO} (e : H a = some o) : upd H a o = H := by
  funext b
  unfold upd
  split
  · rename_i z; subst z; exact e.symm
  · rfl
end
section
variable {X : Cx} {pins : List (Addr × Obj)} {σ : St} {H : Hp} {s : Shared} {E : Value → Shared → Prop} {C ea T : Addr} {dx : Option Addr} {tb fl : Value} {A : Around}
theorem Inv.xset {i : Nat} {v tb' : Value} {a0 a1 : Addr} (I : Inv X pins σ H s) (e : H ea = some (XO C dx tb ea)) (q : s.heap.get? ea = some (XData C dx tb a0))
    (hv : (#[.ref a0, tb, .none, .none, .bool false, .none] : Array Value).setIfInBounds i v = #[.ref a1, tb', .none, .none, .bool false, .none]) :
    Inv X pins σ (upd H ea (XO C dx tb' ea)) { s with heap := s.heap.update ea (Obj.mapFields (·.setIfInBounds i v)) } := by
  have e1 : (s.heap.update ea (Obj.mapFields (·.setIfInBounds i v))).get? ea = some (XData C dx tb' a1) := by
    rw [Heap.get?_update_self _ q rfl]
    show some ({ cls := .ref C, dict := dx, data := .fields ((#[.ref a0, tb, .none, .none, .bool false, .none] : Array Value).setIfInBounds i v) } : Obj) = _
    rw [hv]; rfl
  exact I.write (t' := s.toks) (e := ea) (by rw [e]; trivial) (.inl rfl) (fun b u hb z => by rw [Heap.get?_update_other _ _ (Ne.symm hb)]; exact z) ⟨_, e1⟩ (XO.mk e1)
theorem Inv.tset {v : Value} {o : Obj} {ts : Array Value} (I : Inv X pins σ H s) (e : H T = some (TB fl T)) (q : s.heap.get? T = some o) (d : o.data = .fields ts) (h3 : 3 < ts.size) :
    Inv X pins σ (upd H T (TB v T)) { s with heap := s.heap.update T (Obj.mapFields (·.setIfInBounds 3 v)) } := by
  have d' := Obj.data_mapFields d (·.setIfInBounds 3 v)
  have e1 := Heap.get?_update_self (Obj.mapFields (·.setIfInBounds 3 v)) q (Obj.isFreed_of_fields d')
  exact I.write (t' := s.toks) (e := T) (by rw [e]; trivial) (.inl rfl) (fun b u hb z => by rw [Heap.get?_update_other _ _ (Ne.symm hb)]; exact z) ⟨_, e1⟩ (TB.mk e1 d' (by simp [h3]))
theorem Inv.slots {h' : Heap} (I : Inv X pins σ H s) (hs : Heap.SlotsOnly (frs X.stack) s.heap h') : Inv X pins σ H { s with heap := h' } := by
  have un : Un (frs X.stack) [] H H s.heap h' := ⟨fun b o e _ hb _ => (hs.2.1 b hb).trans e, fun b o e _ _ _ => hs.2.2 b o e, fun _ _ _ n _ => n, fun b o e _ => let ⟨sl, q⟩ := hs.2.2 b o e; ⟨_, q⟩, fun _ _ q => q, fun _ _ _ q => q, fun _ ps q => ⟨#[], by rw [q]; simp⟩⟩
  refine I.call (h' := h') (g' := s.gens) (d' := s.drawn) (t' := s.toks) (ch := []) un (fun b o e => ?_) I.bare fun b z => absurd z (by simp)
  refine (I.hok b o e).stay (fun c u hc q => (hs.2.1 c fun hb => ?_).trans q) (fun _ q => q) fun _ _ q => q
  have n := I.stkFree c hb
  rcases hc with z | z
  · rw [← z, n] at e; cases e
  · rw [n] at z; cases z
end
end L2
set_option Elab.async false
set_option linter.all false
set_option maxRecDepth 100000
set_option maxHeartbeats 4000000
namespace L2
open PySem PySem.Spec PyProof.Rows
section
variable {X : Cx} {pins : List (Addr × Obj)} {σ : St} {H : Hp} {s : Shared} {E : Value → Shared → Prop} {C ea T : Addr} {dx : Option Addr} {tb fl : Value} {A : Around}
def TbOk (H : Hp) (tb : Value) : Prop := tb = .none ∨ ∃ T, tb = .ref T ∧ H T = some (TB .none T)
def Noted (X : Cx) (pins : List (Addr × Obj)) (σ : St) (H : Hp) (C : Addr) (dx : Option Addr) (ea : Addr) (fl : Value) (s' : Shared) : Prop :=
  ∃ T, H T = none ∧ T ≠ ea ∧ Inv X pins σ (upd (upd H T (TB fl T)) ea (XO C dx (.ref T) ea)) s'
theorem note_new {head : Value} {b : Bool} {Q : Unit → Shared → Prop} (hfr : X.A.frames = some (X.env :: X.outer)) (hst : X.stack = X.env :: X.outer) (hL : X.env.frame = some X.env.locals) (I : Inv X pins σ H s) (e : H ea = some (XO C dx tb ea))
    (h : ∀ s', Noted X pins σ H C dx ea (rawInt X.env.locals) s' → Q () s') :
    wpAny (model X.prog X.w) X.A (do let a ← frameOf X.env; let pl ← entryPlaceOf X.env.locals b; let r ← EntryCells.newEntry head a .none (rawInt X.env.locals) .none pl; setField (.ref ea) 1 r) Q E s := by
  have hl := I.stack
  rw [hst] at hl
  refine wpAny_bind (wpAny_frameOf_fun hfr hl hL fun h1 hs1 => ?_)
  have I1 := I.slots (h' := h1) (by rw [hst]; exact hs1)
  refine wpAny_bind (wpAny_entryPlaceOf fun pl hpl => ?_)
  unfold EntryCells.newEntry newFields
  refine wpAny_bind (wpAny_newObj_type ?_ (hpl.sizeOk5 _ _ _ _ _))
  have fresh : H h1.objs.size = none := I1.hok.fresh (Nat.le_refl _)
  have ne : h1.objs.size ≠ ea := fun z => by rw [← z, fresh] at e; cases e
  have t3 : (([head, .ref X.env.locals, .none, rawInt X.env.locals, .none] ++ (if pl.isEmpty then List.replicate 6 Value.none else pl)).toArray : Array Value)[3]? = some (rawInt X.env.locals) := by simp
  have I2 : Inv X pins σ (upd H h1.objs.size (TB (rawInt X.env.locals) h1.objs.size)) { s with heap := h1.push { cls := .type "traceback", dict := none, data := .fields ([head, .ref X.env.locals, .none, rawInt X.env.locals, .none] ++ (if pl.isEmpty then List.replicate 6 Value.none else pl)).toArray } } :=
    I1.laid (a := h1.objs.size) (t' := s.toks) (fun c u q => Heap.get?_push_of_some _ q) (Nat.le_refl _) (TB.mk (Heap.get?_push_size _ rfl) rfl t3)
  have e2 : (upd H h1.objs.size (TB (rawInt X.env.locals) h1.objs.size)) ea = some (XO C dx tb ea) := by rw [upd_ne (Ne.symm ne)]; exact e
  obtain ⟨a0, q⟩ := XO.at I2.hok e2
  refine wpAny_setField q rfl (by show 1 < 6; decide) (h _ ⟨h1.objs.size, fresh, ne, I2.xset (i := 1) (a1 := a0) e2 q rfl⟩)
theorem note_ok {Q : Unit → Shared → Prop} (hst : X.stack = X.env :: X.outer) (hL : X.env.frame = some X.env.locals) (I : Inv X pins σ H s) (e : H ea = some (XO C dx tb ea)) (ht : TbOk H tb)
    (h : ∀ s', Noted X pins σ H C dx ea (rawInt X.env.locals) s' → Q () s') : wpAny (model X.prog X.w) X.A (noteFrame (.ref ea) X.env) Q E s := by
  have hfr : X.A.frames = some (X.env :: X.outer) := by rw [I.ok.frames, hst]
  obtain ⟨a0, q⟩ := XO.at I.hok e
  unfold noteFrame
  simp only [hL]
  refine wpAny_bind (wpAny_field q (x := tb) rfl rfl ?_)
  rcases ht with z | ⟨T, z, eT⟩
  · subst z
    rw [if_neg (by decide)]
    exact note_new hfr hst hL I e h
  · subst z
    obtain ⟨oT, ts, qT, dT, t3⟩ := TB.at I.hok eT
    rw [if_pos (show (Value.ref T != Value.none) = true by simp)]
    refine wpAny_bind (wpAny_field qT dT t3 ?_)
    rw [if_neg (show ¬ ((Value.none == rawInt X.env.locals) = true) by simp [rawInt])]
    have h3 : 3 < ts.size := (Array.getElem?_eq_some_iff.mp t3).1
    have I1 := I.tset (v := Value.none) eT qT dT h3
    rw [upd_id eT] at I1
    exact wpAny_bind (wpAny_setField qT dT h3 (note_new hfr hst hL I1 e h))
theorem flight_ok {Q : Unit → Shared → Prop} (I : Inv X pins σ H s) (e : H ea = some (XO C dx (.ref T) ea)) (eT : H T = some (TB fl T)) (h : ∀ s', Inv X pins σ (upd H T (TB .none T)) s' → Q () s') :
    wpAny (model X.prog X.w) A (setFlight (.ref ea) none) Q E s := by
  obtain ⟨a0, q⟩ := XO.at I.hok e
  obtain ⟨oT, ts, qT, dT, t3⟩ := TB.at I.hok eT
  unfold setFlight
  refine wpAny_bind (wpAny_field q (x := .ref T) rfl rfl ?_)
  rw [if_pos (show (Value.ref T != Value.none) = true by simp)]
  have h3 : 3 < ts.size := (Array.getElem?_eq_some_iff.mp t3).1
  exact wpAny_setField qT dT h3 (h _ (I.tset (v := Value.none) eT qT dT h3))
def SameX (ea : Addr) (H H' : Hp) : Prop := ∀ b o, b ≠ ea → H b = some o → H' b = some o
theorem leave_ok {Q : Unit → Shared → Prop} (hst : X.stack = X.env :: X.outer) (hL : X.env.frame = some X.env.locals) (I : Inv X pins σ H s) (e : H ea = some (XO C dx tb ea)) (ht : TbOk H tb)
    (h : ∀ s' T H', Inv X pins σ H' s' → H' ea = some (XO C dx (.ref T) ea) → H' T = some (TB .none T) → SameX ea H H' → Q () s') : wpAny (model X.prog X.w) X.A (leaving X.env (.ref ea)) Q E s := by
  unfold leaving
  refine wpAny_bind (note_ok hst hL I e ht fun s1 ⟨T, n, ne, I1⟩ => ?_)
  have e1 : upd (upd H T (TB (rawInt X.env.locals) T)) ea (XO C dx (.ref T) ea) ea = some (XO C dx (.ref T) ea) := upd_same
  have e2 : upd (upd H T (TB (rawInt X.env.locals) T)) ea (XO C dx (.ref T) ea) T = some (TB (rawInt X.env.locals) T) := by rw [upd_ne ne, upd_same]
  refine flight_ok I1 e1 e2 fun s2 I2 => h s2 T _ I2 (by rw [upd_ne (Ne.symm ne)]; exact e1) upd_same fun b o hb q => ?_
  have hT : b ≠ T := ne_of_none q n
  rw [upd_ne hT, upd_ne hb, upd_ne hT]
  exact q
def CXE (P : Program) (w : World) : CXT := fun outer H s E e s' => ∃ (ea C dx : Addr) (tb : Value) (H0 H' : Hp), e = .ref ea ∧ s'.os = s.os ∧ AllBare s'.gens ∧ Un (frs outer) [] H H' s.heap s'.heap ∧ HOk P w H' s'.heap ∧
  H' ea = some (XO C (some dx) tb ea) ∧ TbOk H' tb ∧ SameX ea H0 H' ∧ H0 ea = none ∧ E (.ref C) (some dx) H0
end
theorem passE {P : Program} {w : World} {K : PySem.W.Frag} {mg : Str → Option Value} {base : Heap} {N : List Str} {qual : Str} {scope : Scope} {f : Addr} {cd : Value} {A : Around} {outer : List Env} {s : Shared} {H : Hp} {E : XK} :
    Passes (CXE P w) (cxOf (CXE P w) P w K mg base N qual scope f cd A outer s H E) E := by
  intro pins σ H1 s1 e s2 I h
  obtain ⟨ea, C, dx, tb, H0, H2, rfl, os, bare, un, hok, e1, ht, sx, n0, q⟩ := h
  have J : Inv (cxOf (CXE P w) P w K mg base N qual scope f cd A outer s H E) pins σ H2 s2 := I.call' (ch := []) os un hok bare fun b z => absurd z (by simp)
  refine leave_ok (X := cxOf (CXE P w) P w K mg base N qual scope f cd A outer s H E) rfl rfl J e1 ht fun s3 T H3 J3 e3 eT sx3 => ?_
  exact ⟨ea, C, dx, .ref T, H0, H3, rfl, J3.os, J3.bare, J3.base, J3.hok, e3, .inr ⟨T, rfl, eT⟩, fun b o hb z => sx3 b o hb (sx b o hb z), n0, q⟩
end L2
set_option Elab.async false
set_option linter.all false
set_option maxRecDepth 100000
set_option maxHeartbeats 4000000
namespace L2
open PySem PySem.Spec
structure XCl (K : PySem.W.Frag) (C : Addr) : Prop where
  obj : ∃ (nm q : Str) (N : Addr) (bs bm : List Value) (sn : List Str) (sub : List Value) (ab : Bool) (col : Option Bool) (dd : Option Addr) (k0 k1 k2 k3 k5 : Option Value),
    K.lookup C = some (excClassObj nm q C N bs bm true sn sub ab col dd k0 k1 k2 k3 k5 "ValueError.__new__") ∧ XBases bm
section
variable {M : Model} {A : Around} {E : Value → Shared → Prop} {env : Env} {h : Heap} {g : Array GenState} {d : Drawn} {t : Nat} {os : OsState}
variable {nm q : Str} {C N : Addr} {bs bm : List Value} {hdct : Bool} {sn : List Str} {sub : List Value} {ab : Bool} {col : Option Bool} {dd : Option Addr} {k0 k1 k2 k3 k5 : Option Value} {ea a0 : Addr} {dx : Option Addr}
theorem x_raise {Q : Flow → Shared → Prop} (B : XBases bm) (hh : A.handled = none) (hC : h.get? C = some (excClassObj nm q C N bs bm hdct sn sub ab col dd k0 k1 k2 k3 k5 "ValueError.__new__"))
    (he : h.get? ea = some (XData C dx .none a0)) (hE : E (.ref ea) ⟨h, g, d, t, os⟩) : wpAny M A (raiseStmt env (some (pure (.ref ea))) none) Q E ⟨h, g, d, t, os⟩ := by
  have c1 : (Value.ref C :: bm).contains (.type "BaseException") = true := by rw [List.contains_cons, B.be, Bool.or_true]
  have hc : (XData C dx .none a0).cls = .ref C := rfl
  unfold raiseStmt
  refine wpAny_bind (wpAny_pure ?_)
  repeat (first | (with_reducible refine wpAny_loadPart_at he ?_; try rw [hc]) | with_reducible refine wpAny_loadPart_at hC ?_ | (with_reducible refine wpAny_isSubtype_exc hC ?_; rw [c1]) | wp_step)
  exact wpAny_raiseNew_none hh hE
theorem x_check_init {oe : Obj} {us : List Value} {Q : Unit → Shared → Prop} (B : XBases bm) (hC : h.get? C = some (excClassObj nm q C N bs bm hdct sn sub ab col dd k0 k1 k2 k3 k5 "ValueError.__new__"))
    (he : h.get? ea = some oe) (hc : oe.cls = .ref C) (hq : Q () ⟨h, g, d, t, os⟩) : wpAny M A (checkBuiltinCall "ValueError.__init__" ⟨.ref ea :: us, []⟩) Q E ⟨h, g, d, t, os⟩ := by
  have FV := PySem.F.excBase_ValueError
  have c1 : (Value.ref C :: bm).contains (.type "ValueError") = true := by rw [List.contains_cons, B.ve, Bool.or_true]
  have c2 := FV.noStar
  simp only [checkBuiltinCall, FV.initKind, FV.initSplit, FV.initRow]
  repeat (first | (with_reducible refine wpAny_loadPart_at he ?_; rw [hc]) | with_reducible refine wpAny_loadPart_at hC ?_ | (with_reducible refine wpAny_isSubtype_exc hC ?_; rw [c1]) | wp_step)
  refine wpAny_onRaise ?_
  have z : ∀ (a b : String) (n : Nat), Bind.check ⟨.positional, "*", "ValueError", .self, [⟨"args", .varPos, false⟩]⟩ a b n (List.map (fun x => x.fst) ({ pos := Value.ref ea :: us } : Args).kw) = pure () := fun a b n => check_star_args _ _ _ _ _ _
  rw [z]
  exact wpAny_pure hq
end
section
variable {prog : Program} {w : World} {A : Around} {E : Value → Shared → Prop} {env : Env} {h : Heap} {g : Array GenState} {d : Drawn} {t : Nat} {os : OsState}
variable {nm q : Str} {C N : Addr} {bs bm : List Value} {hdct : Bool} {sn : List Str} {sub : List Value} {ab : Bool} {col : Option Bool} {dd : Option Addr} {k0 k1 k2 k3 k5 : Option Value} {ea a0 : Addr} {dx : Option Addr} {tb : Value}
theorem x_init {us : List Value} {Q : Value → Shared → Prop} (B : XBases bm) (hC : h.get? C = some (excClassObj nm q C N bs bm hdct sn sub ab col dd k0 k1 k2 k3 k5 "ValueError.__new__"))
    (he : h.get? ea = some (XData C dx tb a0)) (hus : us.length ≤ sizeLine) (hq : Q .none ⟨(h.push (xTup us)).update ea (Obj.mapFields (·.setIfInBounds 0 (.ref h.objs.size))), g, d, t, os⟩) :
    wpAny (model prog w) A (call (.builtin "ValueError.__init__") (.ref ea :: us)) Q E ⟨h, g, d, t, os⟩ := by
  have FV := PySem.F.excBase_ValueError
  refine wpAny_call (codeAny_call_builtin FV.init.plain FV.initEntry (x_check_init B hC he rfl ?_))
  have he2 := Heap.get?_push_of_some (xTup us) he
  wp_walk
  exact hq
theorem x_set {name : Str} {v : Value} {Q : Unit → Shared → Prop} (B : XBases bm) (hC : h.get? C = some (excClassObj nm q C N bs bm true sn sub ab col dd k0 k1 k2 k3 k5 "ValueError.__new__"))
    (hx : h.get? ea = some (XData C none tb a0)) (sa : PySem.W.Looks (model prog w) h (typeLookup (.ref C) "__setattr__") (some (.builtin "object.__setattr__"))) (na : PySem.W.Looks (model prog w) h (typeLookup (.ref C) name) none)
    (hq : ∀ h' t', h'.Ns1 h.objs.size (fun y => if y = name then some v else none) → h'.get? ea = some (XData C (some h.objs.size) tb a0) → (∀ b o, b ≠ ea → h.get? b = some o → h'.get? b = some o) → Q () ⟨h', g, d, t', os⟩) :
    wpAny (model prog w) A (setAttr (.ref ea) name v) Q E ⟨h, g, d, t, os⟩ := by
  have SF := PySem.F.store_ValueError
  have ty : PySem.W.Looks (model prog w) h (typeOf (.ref ea)) (.ref C) := (PySem.W.Looks.ld hx).andThen .now
  have mro : PySem.W.Looks (model prog w) h (mroOf (.ref C)) (.ref C :: bm) := ((PySem.W.Looks.ld (part := none) hC).andThen .now).andThen .now
  have sub : PySem.W.Looks (model prog w) h (isSubtype (.ref C) (.type "object")) true := by
    intro A' Q' E' s' k q
    obtain ⟨h2, g2, d2, t2, os2⟩ := s'
    refine wpAny_isSubtype_exc (k _ _ hC) ?_
    rw [List.contains_cons, B.ob, Bool.or_true]
    exact q
  have ins : PySem.W.Looks (model prog w) h (isInstance (.ref ea) (.type "object")) true := ty.andThen sub
  refine wpAny_bind (wpAny_mkText (wpAny_bind (wpAny_bind (wpAny_bind (ty _ _ _ _ (fun _ _ e => e) (sa _ _ _ _ (fun _ _ e => e) (wpAny_holding ?_)))))))
  rw [SF.slot.bind]
  refine wpAny_bind (wpAny_pure (wpAny_bind (wpAny_call ?_)))
  refine codeAny_call_builtin SF.slot.plain SF.entry (@PySem.W.check_slot (model prog w) _ _ ⟨h, g, d, t + 1, os⟩ "object.__setattr__" "object" "__setattr__" (.ref ea) [.str name t, v] [] _ SF.kind SF.split ins (SF.args (.ref ea) (.str name t) v) ?_)
  show wpAny (model prog w) A.in1 (Builtin.«object.__setattr__» ⟨[.ref ea, .str name t, v], []⟩) _ _ _
  rw [PySem.W.osa_eq, refuse_eq]
  refine wpAny_bind (wpAny_bind (ty.here (wpAny_bind (mro.here ?_))))
  rw [refuseLoop_ref, B.rf]
  refine wpAny_pure (wpAny_bind (ty.here (wpAny_bind (na.here (wpAny_bind (wpAny_pure ?_))))))
  show wpAny _ _ (Builtin.ObjectAttr.storeInOwnDict (.ref ea) (.ref C) (.str name t) name v false) _ _ _
  unfold Builtin.ObjectAttr.storeInOwnDict
  refine wpAny_bind (wpAny_pure (wpAny_bind (wpAny_bind (wpAny_loadPart hx ?_))))
  show wpAny _ _ (classData C >>= fun cd => if (!cd.hasDict) = true then pure none else (alloc { cls := Value.type "dict", data := Data.dict #[] } >>= fun e => update ea (fun o => { cls := o.cls, dict := some e, data := o.data, slots := o.slots }) >>= fun _ => pure (some e))) _ _ _
  refine wpAny_bind (wpAny_bind (wpAny_load hC (wpAny_pure ?_)))
  rw [if_neg (show ¬ (!true) = true by decide)]
  have hx1 : (h.push { cls := Value.type "dict", data := Data.dict #[] }).get? ea = some (XData C none tb a0) := Heap.get?_push_of_some _ hx
  have ne : ea ≠ h.objs.size := Nat.ne_of_lt (Heap.lt_size hx)
  refine wpAny_bind (wpAny_alloc (wpAny_bind (wpAny_update hx1 (wpAny_pure ?_))))
  have hu : ((h.push { cls := Value.type "dict", data := Data.dict #[] }).update ea fun o => { cls := o.cls, dict := some h.objs.size, data := o.data, slots := o.slots }).get? ea = some (XData C (some h.objs.size) tb a0) := Heap.get?_update_self _ hx1 rfl
  have hd : ((h.push { cls := Value.type "dict", data := Data.dict #[] }).update ea fun o => { cls := o.cls, dict := some h.objs.size, data := o.data, slots := o.slots }).get? h.objs.size = some { cls := Value.type "dict", data := Data.dict #[] } :=
    (Heap.get?_update_other _ _ ne).trans (Heap.get?_push_size _ rfl)
  have hn : ((h.push { cls := Value.type "dict", data := Data.dict #[] }).update ea fun o => { cls := o.cls, dict := some h.objs.size, data := o.data, slots := o.slots }).Ns h.objs.size (fun _ => none) :=
    ⟨_, #[], _, hd, rfl, fun e he => absurd he (by simp), fun _ => rfl⟩
  show wpAny _ _ (Builtin.ObjectAttr.storeInDict h.objs.size (.str name t) name v) _ _ _
  unfold Builtin.ObjectAttr.storeInDict Builtin.ObjectAttr.newKeyGuard
  refine wpAny_bind (wpAny_pure (wpAny_bind (wpAny_nsSet1 (Heap.Ns1.of_empty hn) fun h2 hn2 sb => ?_)))
  obtain ⟨oD, esD, epD, hoD, hdD, hcD⟩ := hn2.count (Within.cons name v Within.nil)
  refine wpAny_bind (wpAny_lookBehind hoD (by rw [hdD]; exact pastItsLine_dict (Nat.le_trans hcD (by rw [List.length_singleton, sizeLine_eq]; omega))) ?_)
  refine wpAny_pure (wpAny_pure (wpAny_pure ?_))
  exact hq h2 _ hn2 ((sb.2 ea ne).trans hu) fun b o hb e => (sb.2 b (Nat.ne_of_lt (Heap.lt_size e))).trans ((Heap.get?_update_other _ _ (Ne.symm hb)).trans (Heap.get?_push_of_some _ e))
theorem x_get {dx : Addr} {name : Str} {v : Value} {m : Str → Option Value} {expr : Bool} {Q : Value → Shared → Prop} (B : XBases bm) (hC : h.get? C = some (excClassObj nm q C N bs bm true sn sub ab col dd k0 k1 k2 k3 k5 "ValueError.__new__"))
    (hx : h.get? ea = some (XData C (some dx) tb a0)) (hm : h.Ns dx m) (hv : m name = some v) (ga : PySem.W.Looks (model prog w) h (typeLookup (.ref C) "__getattribute__") (some (.builtin "BaseException.__getattribute__")))
    (gn : PySem.W.Looks (model prog w) h (typeLookup (.ref C) "__getattr__") none) (na : PySem.W.Looks (model prog w) h (typeLookup (.ref C) name) none) (hh : PySem.W.handedIn v = true)
    (hq : ∀ t', Q v ⟨h, g, d, t', os⟩) : wpAny (model prog w) A (getAttr (.ref ea) name expr) Q E ⟨h, g, d, t, os⟩ := by
  have FX := PySem.F.attr_ValueError
  have ty : PySem.W.Looks (model prog w) h (typeOf (.ref ea)) (.ref C) := (PySem.W.Looks.ld hx).andThen .now
  have sub : PySem.W.Looks (model prog w) h (isSubtype (.ref C) (.type "BaseException")) true := by
    intro A' Q' E' s' k q
    obtain ⟨h2, g2, d2, t2, os2⟩ := s'
    refine wpAny_isSubtype_exc (k _ _ hC) ?_
    rw [List.contains_cons, B.be, Bool.or_true]
    exact q
  have ins : PySem.W.Looks (model prog w) h (isInstance (.ref ea) (.type "BaseException")) true := ty.andThen sub
  have fnd : PySem.W.Looks (model prog w) h (Builtin.ObjectAttr.find (.ref ea) (.ref C) name) (.value v) := by
    intro A' Q' E' s' k q
    unfold Builtin.ObjectAttr.find
    refine wpAny_bind (na _ _ _ _ k (wpAny_bind (wpAny_pure (wpAny_bind (wpAny_pure ?_)))))
    show wpAny _ _ (Builtin.ObjectAttr.ownThenClass (.ref ea) name none none) _ _ _
    unfold Builtin.ObjectAttr.ownThenClass
    refine wpAny_bind (wpAny_bind (wpAny_bind (wpAny_loadPart (k _ _ hx) ?_)))
    show wpAny _ _ (instanceDict ea false) _ _ _
    refine wpAny_bind (wpAny_loadPart (k _ _ hx) ?_)
    show wpAny _ _ (classData C >>= fun cd => if (!cd.hasDict) = true then pure none else pure (some dx)) _ _ _
    refine wpAny_bind (wpAny_bind (wpAny_load (k _ _ hC) (wpAny_pure ?_)))
    rw [if_neg (show ¬ (!true) = true by decide)]
    refine wpAny_pure ?_
    show wpAny _ _ (nsGet dx name) _ _ _
    refine wpAny_nsGet (hm.keeps k) ?_
    rw [hv]
    exact wpAny_bind (wpAny_rule (wpAny_pure q))
  unfold getAttr getAttrBy
  refine wpAny_bind (wpAny_mkText (wpAny_holding (wpAny_bind (ty _ _ _ _ (fun _ _ e => e) (wpAny_bind (ga _ _ _ _ (fun _ _ e => e) ?_))))))
  have n1 : (onTheHeap (Value.ref C) && Value.builtin "BaseException.__getattribute__" == Value.builtin "object.__getattribute__") = false := by
    rw [show (Value.builtin "BaseException.__getattribute__" == Value.builtin "object.__getattribute__") = false by decide +kernel, Bool.and_false]
  show wpAny _ _ (if (onTheHeap (Value.ref C) && Value.builtin "BaseException.__getattribute__" == Value.builtin "object.__getattribute__") = true then _ else _) _ _ _
  rw [if_neg (by rw [n1]; decide)]
  unfold getAttrByItsOwn
  refine wpAny_bind (show wpAny _ _ (hookBefore (.ref C)) _ _ _ from gn _ _ _ _ (fun _ _ e => e) (wpAny_bind (wpAny_attempt (wpAny_holding ?_))))
  unfold callGetattribute
  have n2 : (expr && onTheHeap (Value.builtin "BaseException.__getattribute__")) = false := by cases expr <;> rfl
  rw [n2, if_neg (by decide)]
  unfold boundAndCalled
  rw [FX.ga.bind]
  refine wpAny_bind (wpAny_pure (wpAny_call ?_))
  refine codeAny_call_builtin FX.ga.plain F.entry_bexc_ga (@PySem.W.check_slot (model prog w) _ _ ⟨h, g, d, t + 1, os⟩ "BaseException.__getattribute__" "BaseException" "__getattribute__" (.ref ea) [.str name t] [] _ (by decide +kernel) (by decide +kernel) ins (F.args_bexc_ga (.ref ea) (.str name t)) ?_)
  show wpAny (model prog w) A.in1 (Builtin.«object.__getattribute__» ⟨[.ref ea, .str name t], []⟩) _ _ _
  unfold Builtin.«object.__getattribute__»
  refine wpAny_bind (wpAny_pure (wpAny_bind (wpAny_pure (wpAny_bind (ty.here (wpAny_bind (fnd.here (wpAny_pure ?_))))))))
  show wpAny _ _ (handedOut v) _ _ _
  rw [PySem.W.handedOut_of hh]
  exact wpAny_pure (hq _)
end
end L2
set_option Elab.async false
set_option linter.all false
set_option maxRecDepth 100000
set_option maxHeartbeats 4000000
namespace L2
open PySem PySem.Spec PyProof.Rows
structure XKl (K : PySem.W.Frag) (C : Addr) : Prop extends XCl K C where
  sa : PySem.W.findIn K (.ref C) "__setattr__" = some (some (.builtin "object.__setattr__"))
  ga : PySem.W.findIn K (.ref C) "__getattribute__" = some (some (.builtin "BaseException.__getattribute__"))
  gn : PySem.W.findIn K (.ref C) "__getattr__" = some none
  nw : PySem.W.findIn K (.ref C) "word" = some none
structure XMk (K : PySem.W.Frag) (C f : Addr) : Prop where
  init : PySem.W.findIn K (.ref C) "__init__" = some (some (.ref f))
  fn : PySem.W.isFn K (.ref f) = true
  kp : PySem.W.keepIn K (.ref C) = true
def tXMake (C : Addr) (sp : Sp) (E : XK) : TE := fun _ H Q => ∀ ea, H ea = none → sp [.ref ea] (upd H ea (XO C none .none ea)) (fun v H2 => v = .non ∧ Q (.ref ea) H2) E
section
variable {X : Cx} {CX : CXT} {k : Nat} {f C : Addr} {fd : FuncData} {ps : List Str} {sp : Sp} {E : XK} {x : Str} {p pos apos pos' : Pos} {e o value : Expr} {ta tv te : TE} {t : TA}
theorem pe_xmake0 (XC : XKl X.K C) (M : XMk X.K C f) (F : FnOk X.prog X.w X.K X.mg X.base CX k f fd ps sp) (hr : Room (k + 1) X.A) (hg : Gl X x) (hm : X.mg x = some (.ref C)) (hb : Binds X.K fd ps []) (hx : Passes CX X E)
    (hdb : (x == ("__debug__" : Str)) = false := by decide) : PE X (.Call (.Name x p) [] [] pos) (tXMake C sp E) := by
  intro pins s σ H Q I h
  obtain ⟨nm, q, N, bs, bm, sn, sub, ab, col, dd, k0, k1, k2, k3, k5, lk, B⟩ := XC.obj
  refine wpAny_Call_Name_kw (ld_glob I hg hm ?_ hdb)
  refine PySem.W.callWith_K0 I.kIn M.kp (wpAny_call ?_)
  have I1 : Inv X pins σ H { s with heap := s.heap.push (xTup []) } := I.kept (t' := s.toks) fun b o e => Heap.get?_push_of_some _ e
  have I2 : Inv X pins σ (upd H (s.heap.objs.size + 1) (XO C none .none (s.heap.objs.size + 1))) { s with heap := (s.heap.push (xTup [])).push (xObj C s.heap.objs.size) } := by
    refine I1.laid (a := s.heap.objs.size + 1) (t' := s.toks) (fun b o e => Heap.get?_push_of_some _ e) (Nat.le_of_eq (Heap.size_push ..)) (XO.mk (a0 := s.heap.objs.size) ?_)
    exact Heap.get?_push_at (by rw [Heap.size_push]) rfl
  have hq := h (s.heap.objs.size + 1) (I.hok.fresh (Nat.le_succ _))
  have hl : [Value.ref (s.heap.objs.size + 1)].length = ps.length := by have := F.len _ _ _ _ hq; simpa using this
  have hl2 : ([Value.ref (s.heap.objs.size + 1)] ++ []).length = ps.length := by rw [List.append_nil]; exact hl
  obtain ⟨hh, g, d, t, os⟩ := s
  refine x_make (us := []) B (I.kIn _ _ lk) (PySem.W.looks_findIn I.kIn M.init) (fun self => PySem.W.bind_fn I.kIn self (beq_iff_eq.mp M.fn)) (Nat.zero_le _) ?_
  refine codeAny_mono (F.run _ X.stack _ _ ⟨[Value.ref (hh.objs.size + 1)], []⟩ ([Value.ref (hh.objs.size + 1)] ++ []) [V.ref (hh.objs.size + 1)] _ E (hr.make C [] []) (I2.env0.make C [] []) (hb _ [Value.ref (hh.objs.size + 1)] I2.kIn hl2) (.cons rfl .nil) hq) fun r s' hq' => ?_
  cases r with
  | error e => exact hx pins σ _ _ e s' I2 hq'
  | ok fl =>
    cases fl with
    | ret u =>
      obtain ⟨v, H', I3, rv, ev, q3⟩ := I2.after hq'
      subst ev
      exact ⟨rv, ⟨V.ref (hh.objs.size + 1), H', I3, rfl, q3⟩⟩
    | next => exact False.elim hq'
    | brk => exact False.elim hq'
    | cont => exact False.elim hq'
def tVInit (K : PySem.W.Frag) (t : TA) : TE := fun σ H Q => t σ H fun vs H2 => ∃ ea C dx tb y, vs = [.ref ea, y] ∧ H2 ea = some (XO C dx tb ea) ∧ XKl K C ∧ Q .non H2
theorem ve_find : PySem.W.findCls [] (.type "ValueError") (.type "type") "__init__" = some (.val (.builtin "ValueError.__init__")) := by kernel_rfl
theorem pe_vinit {a b : Expr} {pl : Sem Bool} (hg : Gl X "ValueError") (hm : X.mg "ValueError" = none) (ha : PA X [a, b] t)
    (hst : starEach [a, b] X.env = (false, eval a X.env) :: starEach [b] X.env := by rfl) (hpl : (backTo pos (starEach [b] X.env)).any (·.1) = false := by rfl)
    (ht : eval (.Call (.Attribute (.Name "ValueError" p) "__init__" apos) [a, b] [] pos) X.env = (do
      let ov ← eval (.Name "ValueError" p) X.env
      standAt apos.atName
      let (f, first) ← holding [ov] (getMethod ov "__init__" pl)
      callWith pos f first (backTo pos (starEach [a, b] X.env)) (backToKw pos (keywordEach [] X.env))) := by rfl) :
    PE X (.Call (.Attribute (.Name "ValueError" p) "__init__" apos) [a, b] [] pos) (tVInit X.K t) := by
  intro pins s σ H Q I h
  refine PySem.W.methodCall_KW (pl := pl) (ld_blt I hg hm (u := .type "ValueError") (by rfl) ?_) ht
  obtain ⟨m, fr⟩ := I.fr
  refine PySem.W.method_type fr I.mod.kin (by kernel_rfl) (by decide +kernel) (show PySem.W.findCls X.K (.type "ValueError") (.type "type") "__init__" = some (.val (.builtin "ValueError.__init__")) from ve_find) (by rfl) ?_
  have I0 := I.tok (s.toks + 1)
  refine PyProof.Rows.callWith_builtin1 (thn (ha pos pins _ σ H _ I0 h) fun us s1 ⟨vs, H1, I1, r1, q1⟩ => ?_) hst hpl
  obtain ⟨ea, C, dx, tb, y, rfl, e1, XC, q⟩ := q1
  obtain ⟨u, v, rfl, ru, rv⟩ := r1.two
  cases ru
  obtain ⟨nm, qn, N, bs, bm, sn, sub, ab, col, dd, k0, k1, k2, k3, k5, lk, B⟩ := XC.obj
  obtain ⟨a0, ea1⟩ := XO.at I1.hok e1
  have I2 : Inv X pins σ H1 { s1 with heap := s1.heap.push (xTup [v]) } := I1.kept (t' := s1.toks) fun b o e => Heap.get?_push_of_some _ e
  have I3 := I2.xset (i := 0) (v := .ref s1.heap.objs.size) (a1 := s1.heap.objs.size) e1 (Heap.get?_push_of_some _ ea1) rfl
  rw [upd_id e1] at I3
  obtain ⟨hh, g, d, tt, os⟩ := s1
  exact x_init (us := [v]) B (I1.kIn _ _ lk) ea1 (by show 1 ≤ sizeLine; rw [sizeLine_eq]; omega) ⟨.non, H1, I3, rfl, q⟩
end
end L2
set_option Elab.async false
set_option linter.all false
set_option maxRecDepth 100000
set_option maxHeartbeats 4000000
namespace L2
open PySem PySem.Spec PyProof.Rows
structure XAt (K : PySem.W.Frag) (C : Addr) (m : Str) (f : Addr) : Prop where
  ga : PySem.W.specialIn K (.ref C) "__getattribute__" = some (some (.builtin "type.__getattribute__"))
  rd : PySem.W.readsIn K C (.type "type") = true
  fd : PySem.W.findCls K (.ref C) (.type "type") m = some (.val (.ref f))
  kp : PySem.W.keepIn K (.ref f) = true
section
variable {X : Cx} {CX : CXT} {k : Nat} {f C : Addr} {fd : FuncData} {ps : List Str} {sp : Sp} {E : XK} {x m : Str} {p pos apos pos' : Pos} {e o value : Expr} {es : List Expr} {ta tv te : TE} {t : TA}
theorem pe_cmeth {pl : Sem Bool} (Z : XAt X.K C m f) (F : FnOk X.prog X.w X.K X.mg X.base CX k f fd ps sp) (hr : Room k X.A) (hg : Gl X x) (hm : X.mg x = some (.ref C)) (hb : Binds X.K fd ps []) (hx : Passes CX X E) (ha : PA X (e :: es) t)
    (hst : starEach (e :: es) X.env = (false, eval e X.env) :: starEach es X.env := by rfl) (hpl : (backTo pos (starEach es X.env)).any (·.1) = false := by rfl) (hdb : (x == ("__debug__" : Str)) = false := by decide)
    (ht : eval (.Call (.Attribute (.Name x p) m apos) (e :: es) [] pos) X.env = (do
      let ov ← eval (.Name x p) X.env
      standAt apos.atName
      let (f, first) ← holding [ov] (getMethod ov m pl)
      callWith pos f first (backTo pos (starEach (e :: es) X.env)) (backToKw pos (keywordEach [] X.env))) := by rfl) :
    PE X (.Call (.Attribute (.Name x p) m apos) (e :: es) [] pos) (tCall sp [] E t) := by
  intro pins s σ H Q I h
  refine PySem.W.methodCall_KW (pl := pl) (ld_glob I hg hm ?_ hdb) ht
  refine PySem.W.method_cls I.kIn Z.ga (PySem.W.cls_value I.kIn Z.rd Z.fd (by rfl) ?_)
  have I0 := I.tok (s.toks + 1)
  refine PySem.W.callWith_K (first := []) (h₀ := X.base) I.ok.mod.kin Z.kp (thn (ha pos pins _ σ H _ I0 h) fun us s1 ⟨vs, H1, I1, r, q⟩ => ⟨I1.kIn, ?_⟩) hst hpl
  exact run_fn F hr hb .nil hx I1 r q
def sXFld (K : PySem.W.Frag) (ta tv : TE) (n : Str) : TS := fun D σ H => tv σ H fun y H1 => ta σ H1 fun x H2 => ∃ ea C tb, x = .ref ea ∧ H2 ea = some (XO C none tb ea) ∧ XKl K C ∧ PySem.W.findIn K (.ref C) n = some none ∧
  ∀ dx, H2 dx = none → D.nx σ (upd (upd H2 ea (XO C (some dx) tb ea)) dx (.xd [(n, y)]))
theorem ps_xfld {n : Str} (ha : PE X o ta) (hv : PE X value tv) (hs : swapsWith value (some (.Attribute o n pos')) pos.line X.env = pure false := by rfl) : PS X (.Assign [.Attribute o n pos'] value pos) (sXFld X.K ta tv n) := by
  intro pins s σ H D I h
  refine plainObj_wpAny_Assign_Attribute (thn (hv pins s σ H _ I h) fun u s1 ⟨y, H1, I1, ry, q⟩ => thn (ha pins s1 σ H1 _ I1 q) fun ov s2 ⟨x, H2, I2, rx, ea, C, tb, ex, e1, XC, nw, q2⟩ => ?_) hs
  subst ex
  obtain rfl : ov = Value.ref ea := rx
  obtain ⟨nm, qn, N, bs, bm, sn, sub, ab, col, dd, k0, k1, k2, k3, k5, lk, B⟩ := XC.obj
  obtain ⟨a0, q1⟩ := XO.at I2.hok e1
  have fresh : H2 s2.heap.objs.size = none := I2.hok.fresh (Nat.le_refl _)
  have ne : ea ≠ s2.heap.objs.size := fun z => by rw [z, fresh] at e1; cases e1
  have K2 := I2.kIn
  obtain ⟨hh, g, d, tt, os⟩ := s2
  refine x_set (name := n) (v := u) B (K2 _ _ lk) q1 (PySem.W.looks_findIn K2 XC.sa) (PySem.W.looks_findIn K2 nw) fun h' t' hn hx hk => ?_
  have lt : ea < hh.objs.size := Heap.lt_size q1
  have un : Un X.fs [] H2 (upd (upd H2 ea (XO C (some hh.objs.size) tb ea)) hh.objs.size (.xd [(n, y)])) hh h' := by
    have ntr : ∀ b, H2 b = none → b ≠ ea := fun b z q => by rw [q, e1] at z; cases z
    have hb : ∀ b o, hh.get? b = some o → b ≠ hh.objs.size := fun b o e => Nat.ne_of_lt (Heap.lt_size e)
    refine ⟨fun b o e n0 _ _ => hk b o (ntr b n0) e, fun b o e n0 _ _ => ⟨o.slots, hk b o (ntr b n0) e⟩, fun b o e n0 _ => ?_, fun b o e _ => ?_, fun b xs z => ?_, fun b o u z => ?_, fun b ps z => ⟨#[], ?_⟩⟩
    · rw [upd_ne (hb b o e), upd_ne (ntr b n0)]; exact n0
    · by_cases z : b = ea
      · subst z; exact ⟨_, hx⟩
      · exact ⟨o, hk b o z e⟩
    · rw [upd_ne (ne_of_none z fresh), upd_ne (ne_of z e1 (by intro q; cases q))]; exact z
    · rw [upd_ne (ne_of_none z fresh), upd_ne (ne_of z e1 (by intro q; cases q))]; exact z
    · rw [upd_ne (ne_of_none z fresh), upd_ne (ne_of z e1 (by intro q; cases q))]; simpa using z
  have hok : HOk X.prog X.w (upd (upd H2 ea (XO C (some hh.objs.size) tb ea)) hh.objs.size (.xd [(n, y)])) h' := fun b o z => by
    by_cases b1 : b = hh.objs.size
    · subst b1
      rw [upd_same] at z; cases z
      refine ⟨_, hn, fun w' => ?_⟩
      by_cases hw : w' = n
      · subst hw
        rw [List.lookup_cons, beq_self_eq_true, if_pos rfl]
        exact ry
      · have hw' : (w' == n) = false := by simpa using hw
        rw [List.lookup_cons, hw', if_neg hw]
        trivial
    · rw [upd_ne b1] at z
      by_cases b2 : b = ea
      · subst b2
        rw [upd_same] at z; cases z
        exact XO.mk hx
      · rw [upd_ne b2] at z
        refine (I2.hok b o z).stay (fun c u hc q => hk c u ?_ q) (fun c q => ?_) fun c xs q => ?_
        · rcases hc with hc | hc
          · rw [hc]; exact b2
          · exact ne_of hc e1 (by intro q; cases q)
        · rw [upd_ne (ne_of_none q fresh), upd_ne (ne_of q e1 (by intro q; cases q))]; exact q
        · rw [upd_ne (ne_of_none q fresh), upd_ne (ne_of q e1 (by intro q; cases q))]; exact q
  exact ⟨σ, _, I2.un (h' := h') (t' := t') un hok, q2 _ fresh⟩
def tXGet (K : PySem.W.Frag) (ta : TE) (n : Str) : TE := fun σ H Q => ta σ H fun x H1 => ∃ ea C dx tb fs v, x = .ref ea ∧ H1 ea = some (XO C (some dx) tb ea) ∧ H1 dx = some (.xd fs) ∧ fs.lookup n = some v ∧ XKl K C ∧ PySem.W.findIn K (.ref C) n = some none ∧ Q v H1
theorem pe_xget {n : Str} (he : PE X e ta) (hb : attributeBase e n X.env (eval e X.env) = eval e X.env := by rfl) : PE X (.Attribute e n pos) (tXGet X.K ta n) := by
  intro pins s σ H Q I h
  refine attr_of hb (thn (he pins s σ H _ I h) fun u s1 ⟨x, H1, I1, rx, ea, C, dx, tb, fs, v, ex, e1, e2, l, XC, nw, q⟩ => ?_)
  subst ex
  obtain rfl : u = Value.ref ea := rx
  obtain ⟨nm, qn, N, bs, bm, sn, sub, ab, col, dd, k0, k1, k2, k3, k5, lk, B⟩ := XC.obj
  obtain ⟨a0, q1⟩ := XO.at I1.hok e1
  obtain ⟨m, hm, hr⟩ := I1.hok dx _ e2
  have rv := hr n
  rw [l] at rv
  cases z : m n with
  | none => rw [z] at rv; exact rv.elim
  | some u =>
    rw [z] at rv
    have K1 := I1.kIn
    have J := I1
    obtain ⟨hh, g, d, tt, os⟩ := s1
    exact x_get B (K1 _ _ lk) q1 hm.ns z (PySem.W.looks_findIn K1 XC.ga) (PySem.W.looks_findIn K1 XC.gn) (PySem.W.looks_findIn K1 nw) (handed_of rv) fun t' => ⟨v, H1, J.tok t', rv, q⟩
def tRaise (K : PySem.W.Frag) (te : TE) (E : XK) : TS := fun _ σ H => te σ H fun x H1 => ∃ ea C dx, x = .ref ea ∧ H1 ea = some (XO C (some dx) .none ea) ∧ XKl K C ∧ E (.ref C) (some dx) (fun b => if b = ea then none else H1 b)
theorem ps_raise (hc : X.calm = true) (hx : Passes (CXE X.prog X.w) X E) (he : PE X e te) : PS X (.Raise (some e) none pos) (tRaise X.K te E) := by
  intro pins s σ H D I h
  rw [arm_exec_Raise]
  show wpAny _ _ (standAt pos >>= fun _ => raiseStmt X.env (some (eval e X.env >>= fun v => standAt pos >>= fun _ => pure v)) none) _ _ s
  refine wpAny_bind (wpAny_standAt ?_)
  have key : wpAny (model X.prog X.w) X.A (eval e X.env >>= fun v => standAt pos >>= fun _ => raiseStmt X.env (some (pure v)) none) (SP X pins D) X.xe s := by
    refine wpAny_bind (thn (he pins s σ H _ I h) fun u s1 ⟨x, H1, I1, rx, ea, C, dx, ex, e1, XC, q⟩ => ?_)
    subst ex
    obtain rfl : u = Value.ref ea := rx
    obtain ⟨nm, qn, N, bs, bm, sn, sub, ab, col, dd, k0, k1, k2, k3, k5, lk, B⟩ := XC.obj
    obtain ⟨a0, q1⟩ := XO.at I1.hok e1
    refine wpAny_bind (wpAny_standAt ?_)
    have fin : X.xe (.ref ea) s1 := hx pins σ H1 s1 (.ref ea) s1 I1 ⟨ea, C, dx, .none, _, H1, rfl, rfl, I1.bare, Un.refl, I1.hok, e1, .inl rfl, fun b o hb z => by rw [if_neg hb] at z; exact z, if_pos rfl, q⟩
    have K1 := I1.kIn
    have hd := I1.ok.hd hc
    obtain ⟨hh, g, d, tt, os⟩ := s1
    exact x_raise B hd (K1 _ _ lk) q1 fin
  have e1 : ∀ y : Sem Value, raiseStmt X.env (some y) none = y >>= fun v => raiseStmt X.env (some (pure v)) none := fun y => by
    unfold raiseStmt
    simp only [pure_bind]
  rw [e1, bind_assoc]
  simp only [bind_assoc, pure_bind]
  exact key
end
end L2
set_option Elab.async false
set_option linter.all false
set_option maxRecDepth 100000
set_option maxHeartbeats 4000000
namespace L2
open PySem PySem.Spec PyProof.Rows
structure XSub (K : PySem.W.Frag) (C W : Addr) : Prop where
  obj : ∃ (nm q : Str) (N : Addr) (bs bm : List Value) (sn : List Str) (sub : List Value) (ab : Bool) (col : Option Bool) (dd : Option Addr) (k0 k1 k2 k3 k5 : Option Value),
    K.lookup C = some (excClassObj nm q C N bs bm true sn sub ab col dd k0 k1 k2 k3 k5 "ValueError.__new__") ∧ (Value.ref C :: bm).contains (.ref W) = true
section
variable {M : Model} {A : Around} {E : Value → Shared → Prop} {h : Heap} {g : Array GenState} {d : Drawn} {t : Nat} {os : OsState}
variable {nm q nm' q' : Str} {C N W N' : Addr} {bs bm bs' bm' : List Value} {sn sn' : List Str} {sub sub' : List Value} {ab ab' : Bool} {col col' : Option Bool} {dd dd' : Option Addr} {k0 k1 k2 k3 k5 l0 l1 l2 l3 l5 : Option Value} {ea : Addr} {oe : Obj}
theorem x_match {Q : Bool → Shared → Prop} (hC : h.get? C = some (excClassObj nm q C N bs bm true sn sub ab col dd k0 k1 k2 k3 k5 "ValueError.__new__")) (hW : h.get? W = some (excClassObj nm' q' W N' bs' bm' true sn' sub' ab' col' dd' l0 l1 l2 l3 l5 "ValueError.__new__"))
    (B : XBases bm') (hs : (Value.ref C :: bm).contains (.ref W) = true) (he : h.get? ea = some oe) (hc : oe.cls = .ref C) (hq : Q true ⟨h, g, d, t, os⟩) : wpAny M A (excMatches (.ref ea) (.ref W)) Q E ⟨h, g, d, t, os⟩ := by
  have c1 : (Value.ref W :: bm').contains (.type "BaseException") = true := by rw [List.contains_cons, B.be, Bool.or_true]
  have f := tc_notTuple
  unfold excMatches
  repeat (first | (with_reducible refine wpAny_loadPart_at he ?_; rw [hc]) | with_reducible refine wpAny_loadPart_at hW ?_ | (with_reducible refine wpAny_isSubtype_exc hW ?_; rw [c1]) | (with_reducible refine wpAny_isSubtype_exc hC ?_; rw [hs]) | wp_step)
  exact hq
end
abbrev Cx.guard (X : Cx) (pins : List (Addr × Obj)) (Ey : Value → Shared → Prop) : Cx := { X with pn := X.pn ++ pins, xe := Ey }
abbrev Cx.suite (X : Cx) (ea : Addr) : Cx := { X with A := X.A.mark (some (.ref ea)), calm := false, xe := fun _ _ => False }
section
variable {X : Cx} {pins : List (Addr × Obj)} {σ : St} {H : Hp} {s : Shared} {Ey : Value → Shared → Prop} {ea : Addr}
theorem Cx.Ok.guard (ok : X.Ok) : (X.guard pins Ey).Ok := ⟨ok.mod, ok.kind, ok.glob, ok.blt, ok.above, ok.inj, ok.has, ok.cab, ok.hd, ok.frames, ok.stk, ok.exf, ok.bs, ok.bsz, ok.noex, ok.exfs, ok.funs, ok.frf⟩
theorem Cx.Ok.unguard (ok : (X.guard pins Ey).Ok) : X.Ok := ⟨ok.mod, ok.kind, ok.glob, ok.blt, ok.above, ok.inj, ok.has, ok.cab, ok.hd, ok.frames, ok.stk, ok.exf, ok.bs, ok.bsz, ok.noex, ok.exfs, ok.funs, ok.frf⟩
theorem Cx.Ok.suite (ok : X.Ok) : (X.suite ea).Ok := ⟨ok.mod, ok.kind, ok.glob, ok.blt, ok.above, ok.inj, ok.has, ok.cab, fun z => absurd (show false = true from z) (by decide), ok.frames, ok.stk, ok.exf, ok.bs, ok.bsz, ok.noex, ok.exfs, ok.funs, ok.frf⟩
theorem Inv.guard (I : Inv X pins σ H s) : Inv (X.guard pins Ey) [] σ H s := ⟨I.ok.guard, I.os, I.bare, I.base, I.loc, I.cell, I.free, I.freeC, fun p hp => I.pin p (by simpa using hp), I.hok, I.len⟩
theorem Inv.unguard {pins' : List (Addr × Obj)} (I : Inv (X.guard pins Ey) pins' σ H s) : Inv X pins σ H s := ⟨I.ok.unguard, I.os, I.bare, I.base, I.loc, I.cell, I.free, I.freeC, fun p hp => I.pin p (List.mem_append_left _ hp), I.hok, I.len⟩
theorem Inv.suite (I : Inv X pins σ H s) : Inv (X.suite ea) pins σ H s := ⟨I.ok.suite, I.os, I.bare, I.base, I.loc, I.cell, I.free, I.freeC, I.pin, I.hok, I.len⟩
theorem Inv.unsuite (ok : X.Ok) (I : Inv (X.suite ea) pins σ H s) : Inv X pins σ H s := ⟨ok, I.os, I.bare, I.base, I.loc, I.cell, I.free, I.freeC, I.pin, I.hok, I.len⟩
def blank (n : Nat) : St := List.replicate n none
theorem Inv.blank (I : Inv X pins σ H s) : Inv X pins (L2.blank X.N.length) H s := I.weak (by unfold L2.blank; rw [List.length_replicate, I.len]) fun i v e => by
  unfold L2.blank at e
  rw [List.getElem?_replicate] at e
  split at e <;> cases e
theorem Inv.lost {h' : Heap} {tk : Nat} {m : Str → Option Value} (I : Inv X pins σ H s) (hn : h'.Ns X.env.locals m) (hs : Heap.SameBut X.env.locals s.heap h') : Inv X pins (L2.blank X.N.length) H { s with heap := h', toks := tk } := by
  have neL : ∀ b o, X.s₀.heap.get? b = some o → b ≠ X.env.locals := fun b o e => Nat.ne_of_lt (Nat.lt_of_lt_of_le (Heap.lt_size e) I.ok.above)
  refine ⟨I.ok, I.os, I.bare, ⟨fun b o e n hb hx => ?_, fun b o e n hb hx => ?_, I.base.free, fun b o e hx => ?_, I.base.tups, I.base.frzs, I.base.tbls⟩, ⟨m, hn, fun i x v _ e2 => ?_⟩, fun x c e => ?_, I.free, I.freeC, fun p hp => ?_, fun b o e => ?_, by unfold L2.blank; rw [List.length_replicate]⟩
  · exact (hs.2 b (neL b o e)).trans (I.base.keep b o e n hb hx)
  · obtain ⟨sl, q⟩ := I.base.slot b o e n hb hx
    exact ⟨sl, (hs.2 b (neL b o e)).trans q⟩
  · obtain ⟨o', q⟩ := I.base.there b o e hx
    exact ⟨o', (hs.2 b (neL b o e)).trans q⟩
  · unfold L2.blank at e2
    rw [List.getElem?_replicate] at e2
    split at e2 <;> cases e2
  · obtain ⟨v, q⟩ := I.cell x c e
    exact ⟨v, q.sameBut hs (I.cne x c e)⟩
  · obtain ⟨e, n, ne, nf, d⟩ := I.pin p hp
    exact ⟨(hs.2 p.1 ne).trans e, n, ne, nf, d⟩
  · refine (I.hok b o e).stay (fun c u hc q => (hs.2 c ?_).trans q) (fun _ q => q) fun _ _ q => q
    rintro rfl
    rcases hc with z | z
    · rw [← z, I.free] at e; cases e
    · rw [I.free] at z; cases z
end
def Ends.behind (D : Ends) (n : Nat) : Ends := { nx := fun _ H => D.nx (blank n) H, rt := D.rt, bk := fun _ H => D.bk (blank n) H, ct := fun _ H => D.ct (blank n) H }
def tTry (K : PySem.W.Frag) (n W : Nat) (Eh : XK) (i : Nat) (tb th : TS) : TS := fun D σ H => tb D σ H ∧ ∀ (C dx : Addr) (H0 : Hp) (ea T : Addr) (H' : Hp), Eh (.ref C) (some dx) H0 → SameX ea H0 H' → H0 ea = none → H' ea = some (XO C (some dx) (.ref T) ea) →
  XSub K C W ∧ th (D.behind n) ((blank n).set i (some (.ref ea))) H'
section
variable {X : Cx}
theorem ps_try {body suite : List Stmt} {b₀ : Stmt} {pW hpos pos : Pos} {xW x : Str} {W : Addr} {i : Nat} {Eh : XK} {tb th : TS} (hst : X.stack = X.env :: X.outer) (hL : X.env.frame = some X.env.locals) (hN : X.N.Nodup) (hx : X.N[i]? = some x) (hl : X.env.kindOf x = some .local)
    (hg : Gl X xW) (hm : X.mg xW = some (.ref W)) (XW : XKl X.K W) (hb : ∀ pins Ey, Passes (CXE X.prog X.w) (X.guard pins Ey) Eh → PSs (X.guard pins Ey) body tb) (hh : ∀ ea, PSs (X.suite ea) (b₀ :: suite) th) (hdb : (xW == ("__debug__" : Str)) = false := by decide) :
    PS X (.Try body [.ExceptHandler (some (.Name xW pW)) (some x) (b₀ :: suite) hpos] [] [] pos) (tTry X.K X.N.length W Eh i tb th) := by
  intro pins s σ H D I h
  obtain ⟨h1, h2⟩ := h
  have hfr : X.A.frames = some (X.env :: X.outer) := by rw [I.ok.frames, hst]
  refine wpAny_Try_except ?_
  have pass : Passes (CXE X.prog X.w) (X.guard pins fun e s₁ => wpAny (model X.prog X.w) X.A (noteFrame e X.env) (fun _ s₂ => wpAny (model X.prog X.w) X.A (setFlight e none) (fun _ s₃ => wpAny (model X.prog X.w) X.A (handleBy e X.env [.ExceptHandler (some (.Name xW pW)) (some x) (b₀ :: suite) hpos]) (SP X pins D) X.xe s₃) X.xe s₂) X.xe s₁) Eh := by
    intro pins1 σ1 H1 s1 e s2 I1 hce
    obtain ⟨ea, C, dx, tb', H0, H2, rfl, os, bare, un, hok, e1, ht, sx, n0, q⟩ := hce
    have J := (I1.call' (ch := []) os un hok bare fun b z => absurd z (by simp)).unguard
    refine note_ok hst hL J e1 ht fun s3 ⟨T, nT, neT, J3⟩ => ?_
    have e3 : upd (upd H2 T (TB (rawInt X.env.locals) T)) ea (XO C (some dx) (.ref T) ea) ea = some (XO C (some dx) (.ref T) ea) := upd_same
    have t3 : upd (upd H2 T (TB (rawInt X.env.locals) T)) ea (XO C (some dx) (.ref T) ea) T = some (TB (rawInt X.env.locals) T) := by rw [upd_ne neT, upd_same]
    refine flight_ok J3 e3 t3 fun s4 J4 => ?_
    generalize hH4 : upd (upd (upd H2 T (TB (rawInt X.env.locals) T)) ea (XO C (some dx) (.ref T) ea)) T (TB .none T) = H4 at J4
    have e4 : H4 ea = some (XO C (some dx) (.ref T) ea) := by rw [← hH4, upd_ne (Ne.symm neT)]; exact e3
    have t4 : H4 T = some (TB .none T) := by rw [← hH4]; exact upd_same
    have sx4 : SameX ea H0 H4 := fun b o hb z => by
      have hT : b ≠ T := ne_of_none (sx b o hb z) nT
      rw [← hH4, upd_ne hT, upd_ne hb, upd_ne hT]
      exact sx b o hb z
    obtain ⟨sub, qh⟩ := h2 C dx H0 ea T H4 q sx4 n0 e4
    obtain ⟨nm, qn, N, bs, bm, sn, sb, ab, col, dd, k0, k1, k2, k3, k5, lk, cW⟩ := sub.obj
    obtain ⟨nm', qn', N', bs', bm', sn', sb', ab', col', dd', l0, l1, l2, l3, l5, lk', BW⟩ := XW.obj
    refine wpAny_handleBy_cons (codeAny_handlers_test ?_) (by intro z; cases z)
    have J5 : Inv (X.suite ea) pins σ1 H4 s4 := J4.suite
    refine ld_glob J5 hg hm ?_ hdb
    obtain ⟨a0, q4⟩ := XO.at J4.hok e4
    have K4 := J4.kIn
    have J6 := J4.blank
    obtain ⟨hh4, g4, d4, tk4, os4⟩ := s4
    refine x_match (K4 _ _ lk) (K4 _ _ lk') BW cW q4 rfl ?_
    refine codeAny_handlers_suite_as ?_
    refine flight_ok J4 e4 t4 fun s5 J7 => ?_
    rw [upd_id t4] at J7
    refine store_ok J7.blank hN hx (.inl hl) (v := .ref ea) rfl (fun s6 J8 => ?_) (.inr hl)
    refine wpAny_mono (hh ea pins s6 _ H4 _ (J8.suite (ea := ea)) qh) (fun fl s7 q7 => ?_) fun _ _ z => z.elim
    have done : ∀ {σ7 : St} {H7 : Hp}, Inv (X.suite ea) pins σ7 H7 s7 → ∀ R : St → Hp → Flow → Prop, R (blank X.N.length) H7 fl → (∀ s8, Inv X pins (blank X.N.length) H7 s8 → R (blank X.N.length) H7 fl → SP X pins D fl s8) →
        wpAny (model X.prog X.w) X.A (do bindName X.env x .none; unbindBehindTheSuite X.env x hpos) (fun _ s8 => SP X pins D fl s8) X.xe s7 := fun {σ7 H7} J R r k => by
      have J' := J.unsuite I.ok
      obtain ⟨m, hm', _⟩ := id J'.loc
      refine wpAny_nameGoes hl hm' (by rw [I.ok.kind]; rfl) fun h8 m8 hn8 hs8 => ?_
      exact k _ (J'.lost hn8 hs8) r
    cases fl with
    | next =>
      obtain ⟨σ7, H7, J9, r⟩ := q7
      exact done J9 (fun σ H _ => D.nx σ H) r fun s8 J10 r => ⟨_, _, J10, r⟩
    | brk =>
      obtain ⟨σ7, H7, J9, r⟩ := q7
      exact done J9 (fun σ H _ => D.bk σ H) r fun s8 J10 r => ⟨_, _, J10, r⟩
    | cont =>
      obtain ⟨σ7, H7, J9, r⟩ := q7
      exact done J9 (fun σ H _ => D.ct σ H) r fun s8 J10 r => ⟨_, _, J10, r⟩
    | ret u =>
      obtain ⟨v, σ7, H7, J9, ru, r⟩ := q7
      exact done J9 (fun _ H _ => D.rt v H) r fun s8 J10 r => ⟨v, _, _, J10, ru, r⟩
  refine wpAny_mono (hb pins _ pass [] s σ H D I.guard h1) (fun fl s1 q => ?_) fun _ _ z => z
  have un : SP X pins D fl s1 := by
    cases fl with
    | next => obtain ⟨σ', H', J, r⟩ := q; exact ⟨σ', H', J.unguard, r⟩
    | brk => obtain ⟨σ', H', J, r⟩ := q; exact ⟨σ', H', J.unguard, r⟩
    | cont => obtain ⟨σ', H', J, r⟩ := q; exact ⟨σ', H', J.unguard, r⟩
    | ret u => obtain ⟨v, σ', H', J, ru, r⟩ := q; exact ⟨v, σ', H', J.unguard, ru, r⟩
  cases fl with
  | next => exact wpAny_execs_nil un
  | brk => exact un
  | cont => exact un
  | ret u => exact un
end
end L2
set_option Elab.async false
set_option linter.all false
set_option maxRecDepth 100000
set_option maxHeartbeats 4000000
namespace L2
open PySem PySem.Spec PyProof.Rows
def StrIt (h : Heap) (a : Addr) (x : Str) (i : Nat) : Prop := ∃ ty t, h.IsStrIter a ty x t i ∧ (ty = "str_ascii_iterator" ∨ ty = "str_iterator")
theorem StrIt.at {h h' : Heap} {a : Addr} {x : Str} {i : Nat} (st : StrIt h a x i) (k : ∀ o, h.get? a = some o → h'.get? a = some o) : StrIt h' a x i := by
  obtain ⟨ty, t, ⟨o, e, r⟩, z⟩ := st
  exact ⟨ty, t, ⟨o, k o e, r⟩, z⟩
theorem StrIt.obj {h : Heap} {a : Addr} {x : Str} {i : Nat} (st : StrIt h a x i) : ∃ o, h.get? a = some o ∧ ∀ v, o.data ≠ .cell v := by
  obtain ⟨ty, t, ⟨o, e, c, d⟩, z⟩ := st
  exact ⟨o, e, fun v q => by rw [d] at q; cases q⟩
section
variable {prog : Program} {w : World} {A : Around} {E : Value → Shared → Prop} {s : Shared} {a : Addr} {x : Str} {i c : Nat}
theorem nextStr_item {Q : Value → Shared → Prop} (st : StrIt s.heap a x i) (hx : x.cps[i]? = some c) (hQ : ∀ h' t tk, StrIt h' a x (i + 1) → Heap.SameBut a s.heap h' → Q (.str ⟨#[c]⟩ t) { s with heap := h', toks := tk }) :
    wpAny (model prog w) A (Builtin.SmallTypes.nextOf (.ref a)) Q E s := by
  obtain ⟨ty, t, it, z⟩ := st
  rcases z with rfl | rfl
  · exact wpAny_nextOf_ascii_item it hx fun h' st' sb => hQ h' _ _ ⟨_, t, st', .inl rfl⟩ sb
  · exact wpAny_nextOf_wide_item it hx fun h' st' sb => hQ h' _ _ ⟨_, t, st', .inr rfl⟩ sb
theorem nextStr_end {Q : Value → Shared → Prop} (hh : A.handled = none) (st : StrIt s.heap a x i) (hx : x.cps[i]? = none)
    (hE : ∀ h' e, Heap.ExtBut a s.heap h' → (∃ o, h'.get? e = some o ∧ o.cls = .type "StopIteration") → E (.ref e) { s with heap := h' }) :
    wpAny (model prog w) A (Builtin.SmallTypes.nextOf (.ref a)) Q E s := by
  obtain ⟨ty, t, it, z⟩ := st
  rcases z with rfl | rfl
  · exact wpAny_nextOf_ascii_end hh it hx hE
  · exact wpAny_nextOf_wide_end hh it hx hE
theorem iterStr {t : Tok} {Q : Value → Shared → Prop} (h : ∀ o : Obj, StrIt (s.heap.push o) s.heap.objs.size x 0 → Q (.ref s.heap.objs.size) { s with heap := s.heap.push o }) : wpAny (model prog w) A (pyIter (.str x t)) Q E s := by
  refine wpAny_pyIter_strU (h _ ?_)
  have e := Heap.get?_push_size s.heap (o := { cls := .type (strIterType x), data := .fields #[.str x t, .int 0 0] }) rfl
  refine ⟨strIterType x, t, ⟨_, e, rfl, rfl⟩, ?_⟩
  unfold strIterType
  split
  · exact .inl rfl
  · exact .inr rfl
end
structure Z3 (n : Nat) (x y z : Str) (i : Nat) (f0 : Value) (h : Heap) : Prop where
  zz : h.get? (n + 5) = some { cls := .type "zip", dict := none, data := .fields #[f0, .bool false, .bool false, .ref (n + 3), .ref (n + 4)], slots := #[] }
  ti : h.get? (n + 3) = some { cls := .type "tuple", data := .seq #[.ref n, .ref (n + 1), .ref (n + 2)] }
  to : ∃ a b c, h.get? (n + 4) = some { cls := .type "tuple", data := .seq #[a, b, c] }
  i1 : StrIt h n x i
  i2 : StrIt h (n + 1) y i
  i3 : StrIt h (n + 2) z i
structure Z2 (n : Nat) (x y : Str) (i : Nat) (f0 : Value) (h : Heap) : Prop where
  zz : h.get? (n + 4) = some { cls := .type "zip", dict := none, data := .fields #[f0, .bool false, .bool false, .ref (n + 2), .ref (n + 3)], slots := #[] }
  ti : h.get? (n + 2) = some { cls := .type "tuple", data := .seq #[.ref n, .ref (n + 1)] }
  to : ∃ a b, h.get? (n + 3) = some { cls := .type "tuple", data := .seq #[a, b] }
  i1 : StrIt h n x i
  i2 : StrIt h (n + 1) y i
section
variable {prog : Program} {w : World} {A : Around} {E : Value → Shared → Prop} {s : Shared} {n : Nat} {x y z : Str} {i c1 c2 c3 : Nat}
end
end L2
set_option Elab.async false
set_option linter.all false
set_option maxRecDepth 100000
set_option maxHeartbeats 4000000
namespace L2
open PySem PySem.Spec PyProof.Rows
section
variable {prog : Program} {w : World} {A : Around} {E : Value → Shared → Prop} {s : Shared} {n : Nat} {x y z : Str} {i c1 c2 c3 : Nat}
end
end L2
set_option Elab.async false
set_option linter.all false
set_option maxRecDepth 100000
set_option maxHeartbeats 4000000
namespace L2
open PySem PySem.Spec PyProof.Rows
section
variable {X : Cx} {pins : List (Addr × Obj)} {σ : St} {H : Hp} {s : Shared} {h' : Heap} {t' : Nat} {fp : List Addr}
theorem Inv.turnedL (I : Inv X pins σ H s) (hf : ∀ b ∈ fp, FpOk X pins H b) (k : ∀ b o, b ∉ fp → s.heap.get? b = some o → h'.get? b = some o) : Inv X pins σ H { s with heap := h', toks := t' } := by
  have ntr : ∀ b u, H b = some u → b ∉ fp := fun b u e hb => by rw [(hf b hb).1] at e; cases e
  refine I.step (g' := s.gens) (d' := s.drawn) (ch := fp) (fun b hb => ?_) (fun b o _ _ hc e _ => k b o hc e) (fun b o _ _ hc e _ => ⟨o.slots, k b o hc e⟩) (fun _ _ _ _ n => n) (fun b o hc e => ⟨o, k b o hc e⟩) (fun _ _ e => e) (fun _ _ _ e => e) (fun b ps e => ⟨#[], by rw [e]; simp⟩) (fun m hm => ?_) (fun b u e => ?_) I.bare
  · obtain ⟨_, f1, _, f3, f4, f5⟩ := hf b hb
    exact ⟨f3, f1, f4, f5⟩
  · obtain ⟨o, es, ep, ho, r⟩ := hm
    exact ⟨o, es, ep, k _ o (fun z => (hf _ z).2.1 rfl) ho, r⟩
  · refine (I.hok b u e).stay (fun c v hc q => k c v ?_ q) (fun _ q => q) fun _ _ q => q
    rcases hc with z | z
    · rw [z]; exact ntr b u e
    · exact ntr c _ z
theorem Inv.turnLaid {T : Addr} {o : HO} (I : Inv X pins σ H s) (hf : ∀ b ∈ fp, FpOk X pins H b) (k : ∀ b o, b ∉ fp → s.heap.get? b = some o → h'.get? b = some o) (hT : s.heap.objs.size ≤ T) (hT2 : T ∉ fp)
    (new : ObjOk X.prog X.w (upd H T o) h' T o) : Inv X pins σ (upd H T o) { s with heap := h', toks := t' } := by
  have hn : H T = none := I.hok.fresh hT
  have ntr : ∀ b u, H b = some u → b ∉ fp := fun b u e hb => by rw [(hf b hb).1] at e; cases e
  have neT : ∀ b (u : Obj), s.heap.get? b = some u → b ≠ T := fun b u e => Nat.ne_of_lt (Nat.lt_of_lt_of_le (Heap.lt_size e) hT)
  refine I.step (g' := s.gens) (d' := s.drawn) (ch := fp) (fun b hb => ?_) (fun b o _ _ hc e _ => k b o hc e) (fun b o _ _ hc e _ => ⟨o.slots, k b o hc e⟩) (fun b u _ e n => by rw [upd_ne (neT b u e)]; exact n) (fun b o hc e => ⟨o, k b o hc e⟩)
    (fun b xs e => by rw [upd_ne (ne_of_none e hn)]; exact e) (fun b ob u e => by rw [upd_ne (ne_of_none e hn)]; exact e) (fun b ps e => ⟨#[], by rw [upd_ne (ne_of_none e hn), e]; simp⟩) (fun m hm => ?_) (fun b u e => ?_) I.bare
  · obtain ⟨_, f1, _, f3, f4, f5⟩ := hf b hb
    exact ⟨f3, f1, f4, f5⟩
  · obtain ⟨o, es, ep, ho, r⟩ := hm
    exact ⟨o, es, ep, k _ o (fun z => (hf _ z).2.1 rfl) ho, r⟩
  · by_cases hb : b = T
    · subst hb; rw [upd_same] at e; cases e; exact new
    · rw [upd_ne hb] at e
      refine (I.hok b u e).stay (fun c v hc q => k c v ?_ q) (fun c q => by rw [upd_ne (ne_of_none q hn)]; exact q) fun c xs q => by rw [upd_ne (ne_of_none q hn)]; exact q
      rcases hc with z | z
      · rw [z]; exact ntr b u e
      · exact ntr c _ z
end
def sg (x : Str) (i : Nat) : V := .str ⟨#[x.cps.getD i 0]⟩
theorem sg_at {x : Str} {i : Nat} (h : i < x.length) : x.cps[i]? = some (x.cps.getD i 0) := by
  have h' : i < x.cps.size := h
  simp [Array.getD_eq_getD_getElem?, h']
def Its (x : Str) : It := ⟨fun i _ => i < x.length, fun i H v H' => H' = H ∧ v = sg x i, fun i _ => x.length ≤ i⟩
section
variable {P : Program} {w : World} {K : PySem.W.Frag}
theorem turn_str {tg : Expr} (x : Str) (it : Addr) : Turn P w K tg (Its x) [it] it (fun i h => StrIt h it x i) where
  mem := by simp
  obj := fun i h st b hb => by
    have e : b = it := by simpa using hb
    subst e
    exact st.obj
  keep := fun i h h' st k => st.at fun o e => k it (by simp) o e
  item := by
    intro X hP hw hK hc i pins s σ H E I hf st hg
    subst hP hw hK
    obtain ⟨f0, f1, f2, f3, f4, f5⟩ := hf it (by simp)
    obtain ⟨ty, t, st, z⟩ := st
    have fin : ∀ h' t' tk, (z : ty = "str_ascii_iterator" ∨ ty = "str_iterator") → h'.IsStrIter it ty x t (i + 1) → Heap.SameBut it s.heap h' → ∃ u, some (Value.str ⟨#[x.cps.getD i 0]⟩ t') = some u ∧
        wpAny (model X.prog X.w) X.A (letOwnedTupleGo tg (.ref it) u) (fun _ s2 => ∃ v H', Inv X pins σ H' s2 ∧ RelV v u ∧ (Its x).yld i H v H' ∧ StrIt s2.heap it x (i + 1) ∧ ∀ b ∈ [it], H' b = none) E { s with heap := h', toks := tk } := by
      intro h' t' tk z st' sb
      have I1 : Inv X pins σ H { s with heap := h', toks := tk } := I.turned (fun b o hb e => (sb.2 b hb).trans e) f0 f1 f3 f4 f5
      obtain ⟨o, e, c, d⟩ := id st'
      exact ⟨_, rfl, go_of (s := { s with heap := h', toks := tk }) e c d (by rcases z with rfl | rfl <;> decide) ⟨sg x i, H, I1, ⟨t', rfl⟩, ⟨rfl, rfl⟩, ⟨ty, t, st', z⟩, fun b hb => (hf b hb).1⟩⟩
    rcases z with rfl | rfl
    · exact wpAny_pyNext_ascii_item st (sg_at hg) fun h' st' sb => fin h' _ _ (.inl rfl) st' sb
    · exact wpAny_pyNext_wide_item st (sg_at hg) fun h' st' sb => fin h' _ _ (.inr rfl) st' sb
  done := by
    intro X hP hw hK hc i pins s σ H E I hf st hg
    subst hP hw hK
    obtain ⟨f0, f1, f2, f3, f4, f5⟩ := hf it (by simp)
    have hx : x.cps[i]? = none := Array.getElem?_eq_none hg
    obtain ⟨ty, t, st, z⟩ := st
    rcases z with rfl | rfl
    · exact wpAny_pyNext_ascii_end (I.ok.hd hc) st hx fun h' eb => ⟨rfl, I.turned (t' := s.toks) (fun b o hb e => eb b o hb e) f0 f1 f3 f4 f5⟩
    · exact wpAny_pyNext_wide_end (I.ok.hd hc) st hx fun h' eb => ⟨rfl, I.turned (t' := s.toks) (fun b o hb e => eb b o hb e) f0 f1 f3 f4 f5⟩
  self := fun A i s Q E st h => by
    obtain ⟨ty, t, st, z⟩ := st
    rcases z with rfl | rfl
    · exact wpAny_pyIter_striter_ascii st h
    · exact wpAny_pyIter_striter_wide st h
def fp3 (n : Nat) : List Addr := [n, n + 1, n + 2, n + 3, n + 4, n + 5]
def fp2 (n : Nat) : List Addr := [n, n + 1, n + 2, n + 3, n + 4]
theorem Z3.keep {n : Nat} {x y z : Str} {i : Nat} {f : Value} {h h' : Heap} (Z : Z3 n x y z i f h) (k : ∀ b ∈ fp3 n, ∀ o, h.get? b = some o → h'.get? b = some o) : Z3 n x y z i f h' := by
  obtain ⟨hz, hTI, ⟨a, b, c, hTO⟩, i1, i2, i3⟩ := Z
  exact ⟨k _ (by simp [fp3]) _ hz, k _ (by simp [fp3]) _ hTI, ⟨a, b, c, k _ (by simp [fp3]) _ hTO⟩, i1.at (k _ (by simp [fp3])), i2.at (k _ (by simp [fp3])), i3.at (k _ (by simp [fp3]))⟩
theorem Z2.keep {n : Nat} {x y : Str} {i : Nat} {f : Value} {h h' : Heap} (Z : Z2 n x y i f h) (k : ∀ b ∈ fp2 n, ∀ o, h.get? b = some o → h'.get? b = some o) : Z2 n x y i f h' := by
  obtain ⟨hz, hTI, ⟨a, b, hTO⟩, i1, i2⟩ := Z
  exact ⟨k _ (by simp [fp2]) _ hz, k _ (by simp [fp2]) _ hTI, ⟨a, b, k _ (by simp [fp2]) _ hTO⟩, i1.at (k _ (by simp [fp2])), i2.at (k _ (by simp [fp2]))⟩
theorem Z3.ob {n : Nat} {x y z : Str} {i : Nat} {f : Value} {h : Heap} (Z : Z3 n x y z i f h) : ∀ b ∈ fp3 n, ∃ o, h.get? b = some o ∧ ∀ v, o.data ≠ .cell v := by
  obtain ⟨hz, hTI, ⟨a, b, c, hTO⟩, i1, i2, i3⟩ := Z
  intro b hb
  unfold fp3 at hb
  simp only [List.mem_cons, List.not_mem_nil, or_false] at hb
  rcases hb with rfl | rfl | rfl | rfl | rfl | rfl
  · exact i1.obj
  · exact i2.obj
  · exact i3.obj
  · exact ⟨_, hTI, fun v q => by cases q⟩
  · exact ⟨_, hTO, fun v q => by cases q⟩
  · exact ⟨_, hz, fun v q => by cases q⟩
theorem Z2.ob {n : Nat} {x y : Str} {i : Nat} {f : Value} {h : Heap} (Z : Z2 n x y i f h) : ∀ b ∈ fp2 n, ∃ o, h.get? b = some o ∧ ∀ v, o.data ≠ .cell v := by
  obtain ⟨hz, hTI, ⟨a, b, hTO⟩, i1, i2⟩ := Z
  intro b hb
  unfold fp2 at hb
  simp only [List.mem_cons, List.not_mem_nil, or_false] at hb
  rcases hb with rfl | rfl | rfl | rfl | rfl
  · exact i1.obj
  · exact i2.obj
  · exact ⟨_, hTI, fun v q => by cases q⟩
  · exact ⟨_, hTO, fun v q => by cases q⟩
  · exact ⟨_, hz, fun v q => by cases q⟩
end
section
variable {X : Cx}
def iStr (tl : TE) : TI := fun σ H R => tl σ H fun x H1 => ∃ z, x = .str z ∧ R (Its z) H1
theorem pi_str {tg l : Expr} {tl : TE} (hl : PE X l tl) : PI X tg l (iStr tl) := by
  intro pins s σ H R I h
  refine thn (hl pins s σ H _ I h) fun v s1 ⟨x, H1, I1, r1, q1⟩ => ?_
  obtain ⟨z, rfl, q⟩ := q1
  obtain ⟨t, rfl⟩ := r1
  refine iterStr fun o st => ?_
  refine ⟨s1.heap.objs.size, [s1.heap.objs.size], _, _, H1, rfl, I1.kept (t' := s1.toks) fun b o e => Heap.get?_push_of_some _ e, turn_str z _, st, fun b hb => ?_, q⟩
  have e : b = s1.heap.objs.size := by simpa using hb
  subst e
  exact I1.fpOk (Nat.le_refl _) (I1.hok.fresh (Nat.le_refl _))
end
end L2
set_option Elab.async false
set_option linter.all false
set_option maxRecDepth 100000
set_option maxHeartbeats 4000000
namespace L2
open PySem PySem.Spec PyProof.Rows
inductive Kd where
  | non | bl | int | str | lst | tup
  deriving DecidableEq
def kdIs (K : PySem.W.Frag) (H : Hp) : V → Kd → Prop
  | .non, .non => True
  | .bl _, .bl => True
  | .int _, .int => True
  | .str _, .str => True
  | .ref a, .lst => ∃ xs, SqL K H a xs
  | .ref a, .tup => ∃ xs, SqT K H a xs
  | _, _ => False
def isT : Kd → String → Option Bool
  | .non, "str" => some false | .non, "int" => some false | .non, "bool" => some false | .non, "list" => some false | .non, "tuple" => some false
  | .bl, "str" => some false | .bl, "int" => some true | .bl, "bool" => some true | .bl, "list" => some false | .bl, "tuple" => some false
  | .int, "str" => some false | .int, "int" => some true | .int, "bool" => some false | .int, "list" => some false | .int, "tuple" => some false
  | .str, "str" => some true | .str, "int" => some false | .str, "bool" => some false | .str, "list" => some false | .str, "tuple" => some false
  | .lst, "str" => some false | .lst, "int" => some false | .lst, "bool" => some false | .lst, "list" => some true | .lst, "tuple" => some false
  | .tup, "str" => some false | .tup, "int" => some false | .tup, "bool" => some false | .tup, "list" => some false | .tup, "tuple" => some true
  | _, _ => none
section
variable {X : Cx}
theorem call_isi : CallR X (.builtin "isinstance") (fun xs H Q => ∃ x k T b, xs = [x, .ty T] ∧ kdIs X.K H x k ∧ isT k T = some b ∧ Q (.bl b) H) := by
  intro pins s σ H xs us Q I r h
  obtain ⟨x, k, T, b, rfl, hk, ht, q⟩ := h
  obtain ⟨u, v, rfl, ru, rv⟩ := r.two
  cases rv
  have J : ∀ t, EP X pins σ Q (.bool b) { s with toks := t } := fun t => ⟨.bl b, H, I.tok t, rfl, q⟩
  have J0 : EP X pins σ Q (.bool b) s := ⟨.bl b, H, I, rfl, q⟩
  have lst : ∀ a ys, SqL X.K H a ys → ∃ o, s.heap.get? a = some o ∧ o.cls = .type "list" := fun a ys hq => by
    obtain ⟨its, _, ⟨o, n, e, c, _⟩, _⟩ := I.list hq
    exact ⟨o, e, c⟩
  have tup : ∀ a ys, SqT X.K H a ys → ∃ o, s.heap.get? a = some o ∧ o.cls = .type "tuple" := fun a ys hq => by
    obtain ⟨its, _, ⟨o, e, c, _⟩, _⟩ := I.tuple hq
    exact ⟨o, e, c⟩
  unfold isT at ht
  split at ht <;> cases ht <;> cases x <;> first | exact hk.elim | skip
  · cases ru; exact IsiPair.NoneType_str (J _)
  · cases ru; exact IsiPair.NoneType_int (J _)
  · cases ru; exact IsiPair.NoneType_bool (J _)
  · cases ru; exact IsiPair.NoneType_list (J _)
  · cases ru; exact IsiPair.NoneType_tuple (J _)
  · cases ru; exact IsiPair.bool_str (J _)
  · cases ru; exact IsiPair.bool_int J0
  · cases ru; exact IsiPair.bool_bool J0
  · cases ru; exact IsiPair.bool_list (J _)
  · cases ru; exact IsiPair.bool_tuple (J _)
  · obtain ⟨t, rfl⟩ := ru; exact IsiPair.int_str (J _)
  · obtain ⟨t, rfl⟩ := ru; exact IsiPair.int_int J0
  · obtain ⟨t, rfl⟩ := ru; exact IsiPair.int_bool (J _)
  · obtain ⟨t, rfl⟩ := ru; exact IsiPair.int_list (J _)
  · obtain ⟨t, rfl⟩ := ru; exact IsiPair.int_tuple (J _)
  · obtain ⟨t, rfl⟩ := ru; exact IsiPair.str_str J0
  · obtain ⟨t, rfl⟩ := ru; exact IsiPair.str_int (J _)
  · obtain ⟨t, rfl⟩ := ru; exact IsiPair.str_bool (J _)
  · obtain ⟨t, rfl⟩ := ru; exact IsiPair.str_list (J _)
  · obtain ⟨t, rfl⟩ := ru; exact IsiPair.str_tuple (J _)
  · cases ru; obtain ⟨ys, hq⟩ := hk; obtain ⟨o, e, c⟩ := lst _ _ hq; exact IsiPair.list_str e c (J _)
  · cases ru; obtain ⟨ys, hq⟩ := hk; obtain ⟨o, e, c⟩ := lst _ _ hq; exact IsiPair.list_int e c (J _)
  · cases ru; obtain ⟨ys, hq⟩ := hk; obtain ⟨o, e, c⟩ := lst _ _ hq; exact IsiPair.list_bool e c (J _)
  · cases ru; obtain ⟨ys, hq⟩ := hk; obtain ⟨o, e, c⟩ := lst _ _ hq; exact IsiPair.list_list e c J0
  · cases ru; obtain ⟨ys, hq⟩ := hk; obtain ⟨o, e, c⟩ := lst _ _ hq; exact IsiPair.list_tuple e c (J _)
  · cases ru; obtain ⟨ys, hq⟩ := hk; obtain ⟨o, e, c⟩ := tup _ _ hq; exact IsiPair.tuple_str e c (J _)
  · cases ru; obtain ⟨ys, hq⟩ := hk; obtain ⟨o, e, c⟩ := tup _ _ hq; exact IsiPair.tuple_int e c (J _)
  · cases ru; obtain ⟨ys, hq⟩ := hk; obtain ⟨o, e, c⟩ := tup _ _ hq; exact IsiPair.tuple_bool e c (J _)
  · cases ru; obtain ⟨ys, hq⟩ := hk; obtain ⟨o, e, c⟩ := tup _ _ hq; exact IsiPair.tuple_list e c (J _)
  · cases ru; obtain ⟨ys, hq⟩ := hk; obtain ⟨o, e, c⟩ := tup _ _ hq; exact IsiPair.tuple_tuple e c J0
theorem vals_bl : ∀ {bs : List Bool} {us : List Value}, Vals (bs.map V.bl) us → us = bs.map Value.bool
  | [], _, h => by cases h; rfl
  | b :: r, us, h => by
    cases h with
    | cons r1 r2 => cases r1; rw [vals_bl r2]; rfl
theorem all_range : ∀ (bs : List Bool), ((List.range bs.length).all fun i => bs.getD i false) = bs.all id := fun bs => by
  have e : (List.range bs.length).map (fun i => bs.getD i false) = bs := by
    apply List.ext_getElem
    · simp
    · intro i h1 h2
      simp at h1
      simp [h1]
  conv => rhs; rw [← e]
  rw [List.all_map]; rfl
theorem truth_bl {prog : Program} {w : World} {A : Around} (bs : List Bool) : TruthOf prog w A (fun i v => ((bs.map Value.bool).toArray)[i]? = some v) (fun i => bs.getD i false) := by
  intro i v s Q E hP hQ
  have hP : (bs.map Value.bool)[i]? = some v := by simpa using hP
  rw [List.getElem?_map] at hP
  cases e : bs[i]? with
  | none => rw [e] at hP; cases hP
  | some b =>
    rw [e] at hP
    cases hP
    refine wpAny_truthy_bool ?_
    have : bs.getD i false = b := by rw [List.getD_eq_getElem?_getD, e]; rfl
    have hQ : Q (bs.getD i false) s := hQ
    rw [this] at hQ
    exact hQ
theorem call_all (hc : X.calm = true) : CallR X (.builtin "all") (fun xs H Q => ∃ (a : Addr) (bs : List Bool), xs = [.ref a] ∧ SqL X.K H a (bs.map V.bl) ∧ Q (.bl (bs.all id)) H) := by
  intro pins s σ H xs us Q I r h
  obtain ⟨a, bs, rfl, hq, q⟩ := h
  obtain ⟨u, rfl, ru⟩ := r.one
  cases ru
  obtain ⟨its, rv, p, hz⟩ := I.list hq
  have ei := vals_bl rv
  subst ei
  refine call_all_walk (wpAny_pyIter_list p.isList ?_)
  have ne : a ≠ s.heap.objs.size := by obtain ⟨o, n, e, _⟩ := p; exact Nat.ne_of_lt (Heap.lt_size e)
  have hh : X.A.in1.handled = none := I.ok.hd hc
  refine ⟨s.heap.objs.size, _, _, _, _, _, _, rfl, Walks.list hh _ a ne (bs.map Value.bool).toArray, ⟨⟨_, Heap.get?_push_size _ rfl, rfl, rfl⟩, p.isList.push _⟩, truth_bl bs, fun h' tk kk => ?_⟩
  have e2 : (List.range (bs.map Value.bool).toArray.size).all (fun i => bs.getD i false) = bs.all id := by
    rw [List.size_toArray, List.length_map]; exact all_range bs
  rw [e2]
  exact ⟨.bl (bs.all id), H, I.kept fun b o e => kk b o (fun z => by
    have z : b = s.heap.objs.size := by simpa using z
    exact absurd (Heap.lt_size e) (by rw [z]; exact Nat.lt_irrefl _)) (Heap.get?_push_of_some _ e), rfl, q⟩
def strRep (z : Str) (n : Int) : Str := if n < 1 then Str.empty else if (n == 1 || z.length == 0) = true then z else ⟨(List.replicate n.toNat z.cps).foldl (· ++ ·) #[]⟩
theorem foldl_size (a : Array Nat) : ∀ (k : Nat) (b : Array Nat), ((List.replicate k a).foldl (· ++ ·) b).size = b.size + k * a.size
  | 0, b => by simp
  | k + 1, b => by
    rw [List.replicate_succ, List.foldl_cons, foldl_size a k]
    rw [Array.size_append, Nat.succ_mul]
    omega
theorem op_rep_str : OpR X (binaryOp .Mult) (fun x y H Q => ∃ z n, x = .str z ∧ y = .int n ∧ 0 ≤ n ∧ n ≤ 1000 ∧ z.length ≤ 1000 ∧ Q (.str (strRep z n)) H) := by
  intro pins s σ H x y v u Q I rx ry h
  obtain ⟨z, n, rfl, rfl, h1, h2, h3, q⟩ := h
  obtain ⟨t, rfl⟩ := rx
  obtain ⟨t', rfl⟩ := ry
  have hm : z.length * n.toNat ≤ 1000000 := by
    have : z.length * n.toNat ≤ 1000 * 1000 := Nat.mul_le_mul h3 (by omega)
    omega
  refine PySem.P.mul_str ?_ (fun hn _ => ?_) (fun hn _ => ?_) ?_
  · have e1 : ¬ n < -(2 ^ 63 : Int) := by omega
    have e2 : ¬ n ≥ 2 ^ 63 := by omega
    rw [decide_eq_false e1, decide_eq_false e2]; rfl
  · have e : (z.length : Int) * n ≤ 2 ^ 63 - 1 := by
      have e1 : (z.length : Int) * n = ((z.length * n.toNat : Nat) : Int) := by
        rw [Int.natCast_mul]
        congr 1
        omega
      omega
    have := Int.le_ediv_of_mul_le (show 0 < n by omega) e
    omega
  · have e : ¬ z.length * n.toNat > sizeLine := by rw [sizeLine_eq]; omega
    exact decide_eq_false e
  · unfold strRep at q
    split
    · rename_i c
      rw [if_pos c] at q
      exact ⟨by decide, ⟨.str _, H, I.tok _, ⟨_, rfl⟩, q⟩⟩
    · rename_i c
      rw [if_neg c] at q
      split
      · rename_i c2
        rw [if_pos c2] at q
        exact ⟨.str _, H, I, ⟨_, rfl⟩, q⟩
      · rename_i c2
        rw [if_neg c2] at q
        refine ⟨?_, ⟨.str _, H, I.tok _, ⟨_, rfl⟩, q⟩⟩
        show ((List.replicate n.toNat z.cps).foldl (· ++ ·) #[]).size ≤ sizeLine
        rw [foldl_size, sizeLine_eq]
        have e : n.toNat * z.cps.size = z.length * n.toNat := Nat.mul_comm _ _
        have e0 : (#[] : Array Nat).size = 0 := rfl
        omega
end
end L2
set_option Elab.async false
set_option linter.all false
set_option maxRecDepth 100000
set_option maxHeartbeats 4000000
namespace L2
open PySem PySem.Spec PyProof.Rows
structure Df (K : PySem.W.Frag) (mg : Str → Option Value) (x : Str) (st : Stmt) (ps : List Str) (f : Addr) (fd : FuncData) : Prop where
  F : Fun K x x st f fd
  mg : mg x = some (.ref f)
  b : Binds K fd ps []
theorem passN {P : Program} {w : World} {X : Cx} : Passes (CXE P w) X E0 := fun _ _ _ _ _ _ _ h => by
  obtain ⟨_, _, _, _, _, _, _, _, _, _, _, _, _, _, _, q⟩ := h
  exact q.elim
section
variable {P : Program} {w : World} {K : PySem.W.Frag} {mg : Str → Option Value} {base : Heap}
theorem Fun.okN {x qual : Str} {st : Stmt} {f : Addr} {fd : FuncData} {N ps : List Str} {k : Nat} {sp : Sp} (F : Fun K x qual st f fd) (S : FnScope N ps (defScope st)) (len : ∀ vs H Q E, sp vs H Q E → vs.length = ps.length)
    (hbody : ∀ (cdv : Value) (A : Around) (outer : List Env) (s : Shared) (H : Hp) (vs : List V) (Q : VK) (E : XK), Room k (A.deeper (envOfC qual (defScope st) s.heap.objs.size f cdv)) → sp vs H Q E →
      ∃ t, PSs (cxOf (CXE P w) P w K mg base N qual (defScope st) f cdv A outer s H E).nox (defBody st) t ∧ t { nx := fun _ H' => Q .non H', rt := Q } (start N vs) H) : FnOk P w K mg base (CXE P w) (k + 1) f fd ps sp := by
  obtain ⟨oc, od, kV, doc, pm, an, cdv, ct, osl, rfl, lk, hcd⟩ := F.ex
  refine fn_of lk hcd S len fun A outer s H vs Q E hr hsp => ?_
  obtain ⟨t, h, q⟩ := hbody cdv A outer s H vs Q E hr hsp
  exact ⟨t, h.nox, q⟩
theorem Fun.okE {x qual : Str} {st : Stmt} {f : Addr} {fd : FuncData} {N ps : List Str} {k : Nat} {sp : Sp} (F : Fun K x qual st f fd) (S : FnScope N ps (defScope st)) (len : ∀ vs H Q E, sp vs H Q E → vs.length = ps.length)
    (hbody : ∀ (cdv : Value) (A : Around) (outer : List Env) (s : Shared) (H : Hp) (vs : List V) (Q : VK) (E : XK), Room k (A.deeper (envOfC qual (defScope st) s.heap.objs.size f cdv)) → sp vs H Q E →
      ∃ t, PSs (cxOf (CXE P w) P w K mg base N qual (defScope st) f cdv A outer s H E) (defBody st) t ∧ t { nx := fun _ H' => Q .non H', rt := Q } (start N vs) H) : FnOk P w K mg base (CXE P w) (k + 1) f fd ps sp := by
  obtain ⟨oc, od, kV, doc, pm, an, cdv, ct, osl, rfl, lk, hcd⟩ := F.ex
  exact fn_of lk hcd S len fun A outer s H vs Q E hr hsp => hbody cdv A outer s H vs Q E hr hsp
theorem df_mk {h : Heap} (X : K.In h) (G : h.Ns mainGlobals mg) {x : Str} {st : Stmt} {ps : List Str} {f : Addr} {oc : Value} {od an : Option Addr} {osl : Array (Option Value)} {kV doc pm cdv ct : Value} (a : PySem.W.nsIn K mainGlobals x = some (some (.ref f)))
    (l : K.lookup f = some ⟨oc, od, .func (PySem.W.fnOf x x (defArgs st) (defBody st) (defScope st) .none kV doc pm an cdv ct), osl⟩) (c : PySem.W.codeIn K cdv x = true) (k : PySem.W.keepIn K (.ref f) = true)
    (hb : ∀ (kV doc pm : Value) (an : Option Addr) (cdv ct : Value) (us : List Value), us.length = ps.length → bindArgs (PySem.W.fnOf x x (defArgs st) (defBody st) (defScope st) .none kV doc pm an cdv ct) ⟨us, []⟩ = pure (ps.zip us)) :
    Df K mg x st ps f (PySem.W.fnOf x x (defArgs st) (defBody st) (defScope st) .none kV doc pm an cdv ct) :=
  have F := fun_mk (st := st) l c k
  ⟨F, PySem.W.mg_of X G a, F.binds hb⟩
end
section
variable {X : Cx} {k : Nat} {f : Addr} {fd : FuncData} {ps : List Str} {sp : Sp} {x : Str} {st : Stmt} {p pos : Pos} {e : Expr} {es : List Expr} {t : TA} {E : XK}
theorem pe_fn (D : Df X.K X.mg x st ps f fd) (G : FnOk X.prog X.w X.K X.mg X.base (CXE X.prog X.w) k f fd ps sp) (hr : Room k X.A) (hx : Passes (CXE X.prog X.w) X E) (ha : PA X (e :: es) t) (hg : Gl X x := by rfl)
    (hdb : (x == ("__debug__" : Str)) = false := by decide) (he : starEach (e :: es) X.env = (false, eval e X.env) :: starEach es X.env := by rfl) (hpl : (backTo pos (starEach es X.env)).any (·.1) = false := by rfl) :
    PE X (.Call (.Name x p) (e :: es) [] pos) (tCall sp [] E t) := pe_call G hr hg D.mg D.F.kp D.b .nil hx ha hdb he hpl
end
def cd (b : Bool) : Nat := if b then 121 else 110
def sn (b : Bool) : V := .str ⟨#[cd b]⟩
inductive Dt where
  | non | bl (b : Bool) | int (i : Int) | str (x : Str) | lst (ds : List Dt) | tup (ds : List Dt)
inductive Den (K : PySem.W.Frag) (H : Hp) : V → Dt → Prop
  | non : Den K H .non .non
  | bl (b : Bool) : Den K H (.bl b) (.bl b)
  | int (i : Int) : Den K H (.int i) (.int i)
  | str (x : Str) : Den K H (.str x) (.str x)
  | lst {a : Addr} {xs : List V} {ds : List Dt} : SqL K H a xs → xs.length = ds.length → ds.length ≤ 5000 → (∀ (i : Nat) x d, xs[i]? = some x → ds[i]? = some d → Den K H x d) → Den K H (.ref a) (.lst ds)
  | tup {a : Addr} {xs : List V} {ds : List Dt} : SqT K H a xs → xs.length = ds.length → ds.length ≤ 5000 → (∀ (i : Nat) x d, xs[i]? = some x → ds[i]? = some d → Den K H x d) → Den K H (.ref a) (.tup ds)
theorem Same.seqT {K : PySem.W.Frag} {H H' : Hp} {a : Addr} {xs : List V} (e : Same H H') (h : SqT K H a xs) : SqT K H' a xs := by
  rcases h with (h | ⟨o, h⟩) | h
  · exact .inl (.inl (e _ _ h))
  · exact .inl (.inr ⟨o, e _ _ h⟩)
  · exact .inr h
theorem Den.mono {K : PySem.W.Frag} {H H' : Hp} (e : Same H H') : ∀ {v : V} {d : Dt}, Den K H v d → Den K H' v d := by
  intro v d h
  induction h with
  | non => exact .non
  | bl b => exact .bl b
  | int i => exact .int i
  | str x => exact .str x
  | lst h1 h2 h3 _ ih => exact .lst (e.seq h1) h2 h3 ih
  | tup h1 h2 h3 _ ih => exact .tup (e.seqT h1) h2 h3 ih
def Dt.deep : Dt → Nat
  | .lst ds => 1 + deeps ds
  | .tup ds => 1 + deeps ds
  | _ => 0
where deeps : List Dt → Nat
  | [] => 0
  | d :: r => max d.deep (deeps r)
theorem deep_mem : ∀ {ds : List Dt} {i : Nat} {d : Dt}, ds[i]? = some d → d.deep ≤ Dt.deep.deeps ds
  | _ :: _, 0, _, h => by simp at h; subst h; exact Nat.le_max_left _ _
  | _ :: r, i + 1, d, h => Nat.le_trans (deep_mem (ds := r) (i := i) (by simpa using h)) (Nat.le_max_right _ _)
def Dt.eqb : Dt → Dt → Bool
  | .non, .non => true
  | .bl a, .bl b => a == b
  | .int a, .int b => a == b
  | .str a, .str b => decide (a = b)
  | .lst a, .lst b => eqbs a b
  | .tup a, .tup b => eqbs a b
  | _, _ => false
where eqbs : List Dt → List Dt → Bool
  | [], [] => true
  | a :: r, b :: s => a.eqb b && eqbs r s
  | _, _ => false
theorem Same.new {H : Hp} {p : Addr} {o : HO} (h : H p = none) : Same H (upd H p o) := fun b u e => by rw [upd_ne (ne_of_none e h)]; exact e
end L2
namespace L2
open PySem PySem.Spec PyProof.Rows
section
variable {X : Cx} {st : Stmt} {t : TS}
def tCut (M : St → Hp → Prop) (t : TS) : TS := fun D σ H => t { D with nx := M } σ H ∧ ∀ σ' H', M σ' H' → D.nx σ' H'
theorem ps_cut (M : St → Hp → Prop) (h : PS X st t) : PS X st (tCut M t) := by
  intro pins s σ H D I q
  obtain ⟨q1, q2⟩ := q
  refine thn (h pins s σ H _ I q1) fun f s1 r => ?_
  cases f with
  | next => obtain ⟨σ', H', J, m⟩ := r; exact ⟨σ', H', J, q2 σ' H' m⟩
  | ret v => exact r
  | brk => exact r
  | cont => exact r
end
end L2
namespace L2
open PySem PySem.Spec PyProof.Rows
section
variable {p : Addr} {g : TG} {tt : TT} {te : TE} {σ0 : St} {H0 : Hp} {Q : Hp → Prop} {x y z : Str}
theorem blk_str (Pv : Nat → St → Hp → Prop) (h0 : Pv 0 σ0 H0) (hs : ∀ i σ H, i < x.length → Pv i σ H → BlkTurn p g tt te (Pv (i + 1)) (sg x i) σ H) (hd : ∀ σ H, Pv x.length σ H → Q H) : tBlk (Its x) p g tt te σ0 H0 Q := by
  refine ⟨fun i m σ H => m = x.length - i ∧ i ≤ x.length ∧ Pv i σ H, ⟨x.length, by simp, Nat.zero_le _, h0⟩, ?_⟩
  rintro i m σ H ⟨rfl, hi, q⟩
  by_cases hlt : i < x.length
  · refine .inr ⟨hlt, Pv (i + 1), fun σ' H' r => ⟨x.length - (i + 1), by omega, rfl, hlt, r⟩, fun v H' r => ?_⟩
    obtain ⟨e, r⟩ := r
    subst e r
    exact hs i σ _ hlt q
  · have e : i = x.length := by omega
    subst e
    exact .inl ⟨Nat.le_refl _, hd σ H q⟩
end
theorem turn_all {p : Addr} {i : Nat} {te : TE} {N : St → Hp → Prop} {x : V} {σ : St} {H : Hp} (h : te (σ.set i (some x)) H fun v H4 => ∃ ys, H4 p = some (.lst ys) ∧ ys.length < sizeLine ∧ N (σ.set i (some x)) (upd H4 p (.lst (ys ++ [v])))) :
    BlkTurn p (gName i) tAll te N x σ H := by
  exact iteT (B := N (σ.set i (some x)) H) h
theorem FnOk.no {P : Program} {w : World} {K : PySem.W.Frag} {mg : Str → Option Value} {base : Heap} {CX : CXT} {k : Nat} {f : Addr} {fd : FuncData} {ps : List Str} : FnOk P w K mg base CX k f fd ps (fun _ _ _ _ => False) :=
  ⟨fun _ _ _ _ h => h.elim, fun _ _ _ _ _ _ _ _ _ _ _ _ _ h => h.elim⟩
theorem Den.kd {K : PySem.W.Frag} {H : Hp} {v : V} {d : Dt} (h : Den K H v d) : kdIs K H v (match d with | .non => .non | .bl _ => .bl | .int _ => .int | .str _ => .str | .lst _ => .lst | .tup _ => .tup) := by
  cases h with
  | non => trivial
  | bl => trivial
  | int => trivial
  | str => trivial
  | lst h1 _ _ _ => exact ⟨_, h1⟩
  | tup h1 _ _ _ => exact ⟨_, h1⟩
theorem eqbs_all : ∀ (a b : List Dt), a.length = b.length → Dt.eqb.eqbs a b = ((a.zip b).map fun q => q.1.eqb q.2).all id
  | [], [], _ => rfl
  | x :: r, y :: s, h => by
    show (x.eqb y && Dt.eqb.eqbs r s) = _
    rw [eqbs_all r s (by simpa using h)]
    rfl
theorem eqbs_len : ∀ (a b : List Dt), a.length ≠ b.length → Dt.eqb.eqbs a b = false
  | [], [], h => absurd rfl h
  | [], _ :: _, _ => rfl
  | _ :: _, [], _ => rfl
  | x :: r, y :: s, h => by
    show (x.eqb y && Dt.eqb.eqbs r s) = false
    rw [eqbs_len r s (by simpa using h), Bool.and_false]
theorem Den.isN {K : PySem.W.Frag} {H : Hp} {v : V} {d : Dt} (h : Den K H v d) : decide (v = V.non) = d.eqb .non := by cases h <;> rfl
def Dt.kd : Dt → Kd
  | .non => .non | .bl _ => .bl | .int _ => .int | .str _ => .str | .lst _ => .lst | .tup _ => .tup
theorem Den.kdIs {K : PySem.W.Frag} {H : Hp} {v : V} {d : Dt} (h : Den K H v d) : L2.kdIs K H v d.kd := by cases d <;> exact h.kd
end L2
set_option Elab.async false
set_option linter.all false
set_option maxRecDepth 100000
set_option maxHeartbeats 4000000
namespace K28
open PySem L2
def top (i : Nat) : Stmt := PySem.Challenge.pw_wapentake_k28_oaths_refused_in_order.main.body.getD i (.Pass ⟨0, 0, 0, 0⟩)
abbrev s_cell : Stmt := top 36
abbrev s_draws : Stmt := top 37
structure Bt (mg : Str → Option Value) : Prop where
  len : mg "len" = none
  range : mg "range" = none
  all : mg "all" = none
  zip : mg "zip" = none
  abs : mg "abs" = none
  int : mg "int" = none
  str : mg "str" = none
  bool : mg "bool" = none
  list : mg "list" = none
  tuple : mg "tuple" = none
  isi : mg "isinstance" = none
section
variable {P : Program} {w : World} {K : PySem.W.Frag} {mg : Str → Option Value} {base : Heap}
def cellM (ns : List Int) (k : Nat) : Int := ns.getD k 0
def spCell (K : PySem.W.Frag) : Sp := fun vs H Q _ => ∃ (a : Addr) (ns : List Int) (k : Nat), vs = [.ref a, .int k] ∧ SqL K H a (ns.map V.int) ∧ Q (.int (cellM ns k)) H
theorem sc_cell : FnScope ["_law_script", "_law_k"] ["_law_script", "_law_k"] (defScope s_cell) := ⟨rfl, rfl, rfl, by decide +kernel, rfl, by decide +kernel, by decide +kernel⟩
theorem ok_cell {f : Addr} {fd : FuncData} (D : Df K mg "_law_cell" s_cell ["_law_script", "_law_k"] f fd) (B : Bt mg) : FnOk P w K mg base (CXE P w) 1 f fd ["_law_script", "_law_k"] (spCell K) := by
  refine D.F.okN sc_cell (fun vs H Q E h => ?_) (fun cdv A outer s H vs Q E hr h => ?_)
  · obtain ⟨a, ns, k, rfl, _⟩ := h
    rfl
  · obtain ⟨a, ns, k, rfl, hS, q⟩ := h
    refine ⟨_, pss_cons (ps_if (pt_cmpR op_lt (pv 1) (pe_callB call_len_seq (by rfl) B.len PySem.boot_len (pa_cons (pv 0) pa_nil)) (nomark _))
        (pss_one (ps_ret (pe_ix ix_list (pv 0) (pv 1) (fun _ _ => rfl)))) pss_nil)
      (pss_one (ps_ret pe_int)), ?_⟩
    refine ⟨_, rfl, _, rfl, a, _, rfl, .inl hS, _, _, rfl, rfl, _, rfl, ?_⟩
    refine ite2 (fun c => ?_) (fun c => ?_)
    · have c : (k : Int) < ((ns.map V.int).length : Int) := of_decide_eq_true c
      rw [List.length_map] at c
      have e : (ns.map V.int)[k]? = some (.int (cellM ns k)) := by
        rw [List.getElem?_map, List.getElem?_eq_getElem (by omega)]
        simp [cellM, List.getD_eq_getElem?_getD, List.getElem?_eq_getElem (show k < ns.length by omega)]
      exact ⟨_, rfl, _, rfl, a, _, _, _, rfl, rfl, hS, atI_nat e, q⟩
    · have c : ¬ (k : Int) < ((ns.map V.int).length : Int) := fun z => c (decide_eq_true z)
      rw [List.length_map] at c
      have e : cellM ns k = 0 := by
        simp [cellM, List.getD_eq_getElem?_getD, List.getElem?_eq_none (show ns.length ≤ k by omega)]
      rw [e] at q
      exact q
end
end K28
set_option Elab.async false
set_option linter.all false
set_option maxRecDepth 100000
set_option maxHeartbeats 4000000
namespace K28
open PySem L2
def oneM (c : Int) : Int := (c * 48271 + 11) % 2147483647
def twoM (c : Int) : Int := (oneM c * oneM c + 40692 * oneM c + c) % 2147483399
def sixM (c : Int) : Int := (twoM c * 16807 + oneM c) % 1000000007
def absM (c : Int) : Int := if c < 0 then -c else c
def mixM (c : Int) : Int := if absM c < 10 ^ 18 then twoM c + 2147483399 * (sixM c + 1000000007 * oneM c) else absM c - 10 ^ 18
def drawsGo : Int → List Int → List Int
  | _, [] => []
  | c, p :: r => c % p :: drawsGo (c / p) r
def restM (c : Int) : List Int → Int
  | [] => c
  | p :: r => restM (c / p) r
def drawsM (c : Int) (ps : List Int) : List Int := drawsGo (mixM c) ps
theorem go_len : ∀ (ps : List Int) (c : Int), (drawsGo c ps).length = ps.length
  | [], _ => rfl
  | p :: r, c => by show (drawsGo (c / p) r).length + 1 = r.length + 1; rw [go_len r]
theorem rest_take : ∀ (ps : List Int) (c : Int) (i : Nat) (p : Int), ps[i]? = some p → restM c (ps.take (i + 1)) = restM c (ps.take i) / p
  | q :: r, c, 0, p, h => by simp at h; subst h; rfl
  | q :: r, c, i + 1, p, h => by
    show restM (c / q) (r.take (i + 1)) = restM (c / q) (r.take i) / p
    exact rest_take r (c / q) i p (by simpa using h)
theorem go_take : ∀ (ps : List Int) (c : Int) (i : Nat) (p : Int), ps[i]? = some p → (drawsGo c ps).take (i + 1) = (drawsGo c ps).take i ++ [restM c (ps.take i) % p]
  | q :: r, c, 0, p, h => by simp at h; subst h; simp [drawsGo, restM]
  | q :: r, c, i + 1, p, h => by
    show (c % q) :: (drawsGo (c / q) r).take (i + 1) = (c % q) :: ((drawsGo (c / q) r).take i ++ [restM (c / q) (r.take i) % p])
    rw [go_take r (c / q) i p (by simpa using h)]
theorem one_b (c : Int) : 0 ≤ oneM c ∧ oneM c < 2147483647 := ⟨Int.emod_nonneg _ (by decide), Int.emod_lt_of_pos _ (by decide)⟩
theorem two_b (c : Int) : 0 ≤ twoM c ∧ twoM c < 2147483399 := ⟨Int.emod_nonneg _ (by decide), Int.emod_lt_of_pos _ (by decide)⟩
theorem six_b (c : Int) : 0 ≤ sixM c ∧ sixM c < 1000000007 := ⟨Int.emod_nonneg _ (by decide), Int.emod_lt_of_pos _ (by decide)⟩
section
variable {P : Program} {w : World} {K : PySem.W.Frag} {mg : Str → Option Value} {base : Heap}
def spDraws (K : PySem.W.Frag) : Sp := fun vs H Q _ => ∃ (c : Int) (p : Addr) (ps : List Int), vs = [.int c, .ref p] ∧ SqL K H p (ps.map V.int) ∧ (∀ x ∈ ps, 0 < x ∧ x < 1073741824) ∧ ps.length ≤ 100 ∧
  ∀ q H', Same H H' → H q = none → H' q = some (.lst ((drawsM c ps).map V.int)) → Q (.ref q) H'
theorem sc_draws : FnScope ["_law_cell_here", "_law_parts", "_law_one", "_law_two", "_law_six", "_law_found", "_law_part"] ["_law_cell_here", "_law_parts"] (defScope s_draws) := ⟨rfl, rfl, rfl, by decide +kernel, rfl, by decide +kernel, by decide +kernel⟩
theorem ok_draws {f : Addr} {fd : FuncData} (D : Df K mg "_law_draws" s_draws ["_law_cell_here", "_law_parts"] f fd) (B : Bt mg) : FnOk P w K mg base (CXE P w) 1 f fd ["_law_cell_here", "_law_parts"] (spDraws K) := by
  refine D.F.okN sc_draws (fun vs H Q E h => ?_) (fun cdv A outer s H vs Q E hr h => ?_)
  · obtain ⟨c, p, ps, rfl, _⟩ := h
    rfl
  · obtain ⟨c, p, ps, rfl, hS, hps, hl, k⟩ := h
    refine ⟨_, pss_cons (ps_cut (fun σ' H' => H' = H ∧ ∃ x2 x3 x4, σ' = [some (.int (mixM c)), some (.ref p), x2, x3, x4, none, none])
        (ps_if (pt_cmpR op_lt (pe_callB call_abs (by rfl) B.abs PyProof.Rows.boot_abs (pa_cons (pv 0) pa_nil)) (pe_op op_pow pe_int pe_int) (nomark _))
          (pss_cons (ps_set (i := 2) sc_draws.nd rfl (Or.inl rfl) (pe_op op_mod (pe_op op_add (pe_op op_mul (pv 0) pe_int) pe_int) pe_int))
          (pss_cons (ps_set (i := 3) sc_draws.nd rfl (Or.inl rfl) (pe_op op_mod (pe_op op_add (pe_op op_add (pe_op op_mul (pv 2) (pv 2)) (pe_op op_mul pe_int (pv 2))) (pv 0)) pe_int))
          (pss_cons (ps_set (i := 4) sc_draws.nd rfl (Or.inl rfl) (pe_op op_mod (pe_op op_add (pe_op op_mul (pv 3) pe_int) (pv 2)) pe_int))
          (pss_one (ps_set (i := 0) sc_draws.nd rfl (Or.inl rfl) (pe_op op_add (pv 3) (pe_op op_mul pe_int (pe_op op_add (pv 4) (pe_op op_mul pe_int (pv 2))))))))))
          (pss_one (ps_set (i := 0) sc_draws.nd rfl (Or.inl rfl) (pe_op op_sub (pe_callB call_abs (by rfl) B.abs PyProof.Rows.boot_abs (pa_cons (pv 0) pa_nil)) (pe_op op_pow pe_int pe_int))))))
      (pss_cons (ps_set (i := 5) sc_draws.nd rfl (Or.inl rfl) (pe_lst pa_nil))
      (pss_cons (ps_for PassesOwn.never rfl (pi_list (pv 1)) (pg_name (i := 6) sc_draws.nd rfl (Or.inl rfl))
        (pss_cons (ps_expr (pe_bm PySem.F.plainAttrs_list PySem.F.slot_list_append PySem.F.type_list_append mt_append (pv 5) (pa_cons (pe_op op_mod (pv 0) (pv 6)) pa_nil)))
        (pss_one (ps_set (i := 0) sc_draws.nd rfl (Or.inl rfl) (pe_op op_fdiv (pv 0) (pv 6))))))
      (pss_one (ps_ret (pv 5))))), ?_⟩
    have b1 := one_b c
    have b2 := two_b c
    have b3 := six_b c
    refine ⟨?_, ?_⟩
    · refine ⟨_, rfl, _, rfl, _, _, rfl, rfl, ⟨by decide, by decide, by decide⟩, _, _, rfl, rfl, _, rfl, ?_⟩
      refine ite2 (fun z => ?_) (fun z => ?_)
      · have z : absM c < 10 ^ 18 := of_decide_eq_true z
        refine ⟨_, rfl, _, _, rfl, rfl, .inr ⟨by decide, by decide⟩, _, _, rfl, rfl, _, _, rfl, rfl, (by show (0 : Int) < 2147483647; decide), ?_⟩
        refine ⟨_, rfl, _, rfl, _, _, rfl, rfl, .inl ⟨?_, ?_⟩, _, rfl, _, _, rfl, rfl, .inl ⟨by decide, by decide⟩, _, _, rfl, rfl, _, rfl, _, _, rfl, rfl, _, _, rfl, rfl, (by show (0 : Int) < 2147483399; decide), ?_⟩
        · show -(2 ^ 64) < oneM c; omega
        · show oneM c < 2 ^ 64; omega
        refine ⟨_, rfl, _, _, rfl, rfl, .inr ⟨by decide, by decide⟩, _, rfl, _, _, rfl, rfl, _, _, rfl, rfl, (by show (0 : Int) < 1000000007; decide), ?_⟩
        refine ⟨_, rfl, _, rfl, _, rfl, _, _, rfl, rfl, .inl ⟨by decide, by decide⟩, _, _, rfl, rfl, _, _, rfl, rfl, .inl ⟨by decide, by decide⟩, _, _, rfl, rfl, ?_⟩
        refine ⟨rfl, some (.int (oneM c)), some (.int (twoM c)), some (.int (sixM c)), ?_⟩
        have e : mixM c = twoM c + 2147483399 * (sixM c + 1000000007 * oneM c) := if_pos z
        rw [e]
        rfl
      · have z : ¬ absM c < 10 ^ 18 := fun q => z (decide_eq_true q)
        refine ⟨_, rfl, _, rfl, _, _, rfl, rfl, ⟨by decide, by decide, by decide⟩, _, _, rfl, rfl, ?_⟩
        refine ⟨rfl, none, none, none, ?_⟩
        have e : mixM c = absM c - 10 ^ 18 := if_neg z
        rw [e]
        rfl
    · rintro σ' H' ⟨rfl, x2, x3, x4, rfl⟩
      refine ⟨Nat.zero_le _, fun q hq => ?_⟩
      have S0 : Same H' (upd H' q (.lst [])) := Same.new hq
      refine ⟨_, rfl, p, rfl, ⟨_, S0.seq hS⟩, for_list (K := K) (a := p) (xs := ps.map V.int) (fun i σ H2 => ∃ v, σ = [some (.int (restM (mixM c) (ps.take i))), some (.ref p), x2, x3, x4, some (.ref q), v] ∧ Same H' H2 ∧ H2 q = some (.lst (((drawsM c ps).take i).map V.int)))
        ⟨none, rfl, S0, upd_same⟩ (fun i σ H2 _ ⟨_, _, s2, _⟩ => s2.seq hS) ?_ ?_⟩
      · rintro i y σ H2 hi ⟨v, rfl, s2, e2⟩
        rw [List.getElem?_map] at hi
        cases z : ps[i]? with
        | none => rw [z] at hi; cases hi
        | some d =>
          rw [z] at hi
          cases hi
          obtain ⟨d1, d2⟩ := hps d (List.mem_of_getElem? z)
          have il : i < ps.length := (List.getElem?_eq_some_iff.mp z).1
          refine ⟨_, rfl, .inl ⟨rfl, _, SqL.of e2⟩, _, rfl, _, rfl, _, _, rfl, rfl, d1, q, _, _, rfl, rfl, e2, ?_, ?_⟩
          · rw [List.length_map, List.length_take]
            exact small1000 (by omega)
          refine ⟨_, rfl, _, rfl, _, _, rfl, rfl, ⟨d1, d2⟩, ?_⟩
          refine ⟨some (.int d), ?_, fun b o hb => ?_, ?_⟩
          · rw [rest_take ps (mixM c) i d z]; rfl
          · rw [upd_ne (ne_of_none hb hq)]
            exact s2 b o hb
          · rw [upd_same]
            show some (HO.lst _) = _
            unfold drawsM
            rw [go_take ps (mixM c) i d z, List.map_append]
            rfl
      · rintro σ H2 ⟨v, rfl, s2, e2⟩
        refine ⟨_, rfl, k q H2 s2 hq ?_⟩
        rw [e2]
        have : (drawsM c ps).take (ps.map V.int).length = drawsM c ps := List.take_of_length_le (by unfold drawsM; rw [go_len, List.length_map]; exact Nat.le_refl _)
        rw [this]
end
end K28
set_option Elab.async false
set_option linter.all false
set_option maxRecDepth 100000
set_option maxHeartbeats 4000000
namespace K28
open PySem L2
abbrev s_same : Stmt := top 38
section
variable {P : Program} {w : World} {K : PySem.W.Frag} {mg : Str → Option Value} {base : Heap}
def spSame (K : PySem.W.Frag) : Nat → Sp
  | 0 => fun _ _ _ _ => False
  | m + 1 => fun vs H Q _ => ∃ (v1 v2 : V) (d1 d2 : Dt), vs = [v1, v2] ∧ Den K H v1 d1 ∧ Den K H v2 d2 ∧ d2.deep ≤ m ∧ ∀ H', Same H H' → Q (.bl (d1.eqb d2)) H'
theorem sc_same : FnScope ["_law_found", "_law_due"] ["_law_found", "_law_due"] (defScope s_same) := ⟨rfl, rfl, rfl, by decide +kernel, rfl, by decide +kernel, by decide +kernel⟩
theorem small1000' {n : Nat} (h : n ≤ 5000) : n < sizeLine := Nat.lt_of_le_of_lt h (by decide)
theorem nd3 : (["_law_k", "_law_found", "_law_due"] : List Str).Nodup := by decide +kernel
abbrev Ps : List Str := ["_law_found", "_law_due"]
theorem ok_same {f : Addr} {fd : FuncData} (D : Df K mg "_law_same" s_same Ps f fd) (B : Bt mg) (m : Nat) : FnOk P w K mg base (CXE P w) m f fd Ps (spSame K m) := by
  induction m with
  | zero => exact FnOk.no
  | succ m G =>
    refine D.F.okN sc_same (fun vs H Q E h => ?_) (fun cdv A outer s H vs Q E hr h => ?_)
    · obtain ⟨v1, v2, d1, d2, rfl, _⟩ := h
      rfl
    · obtain ⟨v1, v2, d1, d2, rfl, h1, h2, hd, k⟩ := h
      refine ⟨_, pss_cons (ps_if (pt_cmpR op_isN (pv 1) pe_non (nomark _)) (pss_one (ps_ret (pe_cmpR op_isN (pv 0) pe_non (nomark _)))) pss_nil)
        (pss_cons (ps_if (pt_val (pe_callB call_isi (by rfl) B.isi (by rfl) (pa_cons (pv 1) (pa_cons (pe_bltn (by rfl) B.str (v := .ty "str") (u := .type "str") (by rfl) rfl) pa_nil))))
            (pss_one (ps_ret (pe_and (pe_callB call_isi (by rfl) B.isi (by rfl) (pa_cons (pv 0) (pa_cons (pe_bltn (by rfl) B.str (v := .ty "str") (u := .type "str") (by rfl) rfl) pa_nil)))
              (pe_one (pe_cmpR op_eq (pv 0) (pv 1) (nomark _)))))) pss_nil)
        (pss_cons (ps_if (pt_val (pe_callB call_isi (by rfl) B.isi (by rfl) (pa_cons (pv 1) (pa_cons (pe_bltn (by rfl) B.int (v := .ty "int") (u := .type "int") (by rfl) rfl) pa_nil))))
            (pss_one (ps_ret (pe_and (pe_callB call_isi (by rfl) B.isi (by rfl) (pa_cons (pv 0) (pa_cons (pe_bltn (by rfl) B.int (v := .ty "int") (u := .type "int") (by rfl) rfl) pa_nil)))
              (pe_and (pe_cmpR op_eq (pe_callB call_isi (by rfl) B.isi (by rfl) (pa_cons (pv 0) (pa_cons (pe_bltn (by rfl) B.bool (v := .ty "bool") (u := .type "bool") (by rfl) rfl) pa_nil)))
                  (pe_callB call_isi (by rfl) B.isi (by rfl) (pa_cons (pv 1) (pa_cons (pe_bltn (by rfl) B.bool (v := .ty "bool") (u := .type "bool") (by rfl) rfl) pa_nil))) (nomark _))
                (pe_one (pe_cmpR op_eq (pv 0) (pv 1) (nomark _))))))) pss_nil)
        (pss_cons (ps_if (PW.pt (pw_or (pt_cmpR op_ne (pe_callB call_isi (by rfl) B.isi (by rfl) (pa_cons (pv 1) (pa_cons (pe_bltn (by rfl) B.list (v := .ty "list") (u := .type "list") (by rfl) rfl) pa_nil)))
                  (pe_callB call_isi (by rfl) B.isi (by rfl) (pa_cons (pv 0) (pa_cons (pe_bltn (by rfl) B.list (v := .ty "list") (u := .type "list") (by rfl) rfl) pa_nil))) (nomark _))
                (pw_or1 (pt_cmpR op_ne (pe_callB call_isi (by rfl) B.isi (by rfl) (pa_cons (pv 1) (pa_cons (pe_bltn (by rfl) B.tuple (v := .ty "tuple") (u := .type "tuple") (by rfl) rfl) pa_nil)))
                  (pe_callB call_isi (by rfl) B.isi (by rfl) (pa_cons (pv 0) (pa_cons (pe_bltn (by rfl) B.tuple (v := .ty "tuple") (u := .type "tuple") (by rfl) rfl) pa_nil))) (nomark _)))))
            (pss_one (ps_ret pe_bl)) pss_nil)
        (pss_one (ps_ret (pe_and (pe_cmpR op_eq (pe_callB call_len_seq (by rfl) B.len PySem.boot_len (pa_cons (pv 0) pa_nil)) (pe_callB call_len_seq (by rfl) B.len PySem.boot_len (pa_cons (pv 1) pa_nil)) (nomark _))
          (pe_one (pe_callB (call_all rfl) (by rfl) B.all (by rfl) (pa_cons
            (pe_comp (N' := ["_law_k", "_law_found", "_law_due"]) (fm := [none, some 0, some 1]) rfl ⟨rfl, by decide +kernel, by decide +kernel, rfl, rfl, rfl⟩
              (pi_range1 (by rfl) B.range (pa_cons (pe_callB call_len_seq (by rfl) B.len PySem.boot_len (pa_cons (pv 1) pa_nil)) pa_nil))
              (fun _ _ _ _ => pg_name (i := 0) nd3 rfl (Or.inl rfl)) (fun _ _ _ _ => pif_nil)
              (fun _ _ _ _ => pe_fn D G hr passN (pa_cons (pe_ix (r := rIx K) ix_seq (pv 1) (pv 0) (fun _ _ => rfl)) (pa_cons (pe_ix (r := rIx K) ix_seq (pv 2) (pv 0) (fun _ _ => rfl)) pa_nil)))) pa_nil))))))))), ?_⟩
      have kk := h1.kdIs
      have fin := k H (Same.refl H)
      cases h2 with
      | non =>
        refine ⟨_, rfl, rfl, _, rfl, iteT ⟨_, rfl, rfl, ?_⟩⟩
        have e := h1.isN
        rw [e]
        exact fin
      | str y =>
        refine ⟨_, rfl, rfl, _, rfl, iteF ⟨_, rfl, _, .str, "str", true, rfl, trivial, rfl, _, rfl, iteT ?_⟩⟩
        cases h1 with
        | str x =>
          refine ⟨_, rfl, _, .str, "str", true, rfl, trivial, rfl, _, rfl, iteT ⟨_, rfl, _, rfl, rfl, ?_⟩⟩
          have e : decide (V.str x = V.str y) = (Dt.str x).eqb (.str y) := by simp [Dt.eqb]
          rw [e]
          exact fin
        | non => exact ⟨_, rfl, _, .non, "str", false, rfl, kk, rfl, _, rfl, iteF fin⟩
        | bl _ => exact ⟨_, rfl, _, .bl, "str", false, rfl, kk, rfl, _, rfl, iteF fin⟩
        | int _ => exact ⟨_, rfl, _, .int, "str", false, rfl, kk, rfl, _, rfl, iteF fin⟩
        | lst _ _ _ _ => exact ⟨_, rfl, _, .lst, "str", false, rfl, kk, rfl, _, rfl, iteF fin⟩
        | tup _ _ _ _ => exact ⟨_, rfl, _, .tup, "str", false, rfl, kk, rfl, _, rfl, iteF fin⟩
      | int y =>
        refine ⟨_, rfl, rfl, _, rfl, iteF ⟨_, rfl, _, .int, "str", false, rfl, trivial, rfl, _, rfl, iteF ⟨_, rfl, _, .int, "int", true, rfl, trivial, rfl, _, rfl, iteT ?_⟩⟩⟩
        cases h1 with
        | int x =>
          refine ⟨_, rfl, _, .int, "int", true, rfl, trivial, rfl, _, rfl, iteT ⟨_, rfl, _, .int, "bool", false, rfl, trivial, rfl, _, rfl, _, .int, "bool", false, rfl, trivial, rfl, rfl, _, rfl, iteT ⟨_, rfl, _, rfl, rfl, ?_⟩⟩⟩
          have e : decide (V.int x = V.int y) = (Dt.int x).eqb (.int y) := dec_int
          rw [e]
          exact fin
        | bl x => exact ⟨_, rfl, _, .bl, "int", true, rfl, trivial, rfl, _, rfl, iteT ⟨_, rfl, _, .bl, "bool", true, rfl, trivial, rfl, _, rfl, _, .int, "bool", false, rfl, trivial, rfl, rfl, _, rfl, iteF fin⟩⟩
        | non => exact ⟨_, rfl, _, .non, "int", false, rfl, kk, rfl, _, rfl, iteF fin⟩
        | str _ => exact ⟨_, rfl, _, .str, "int", false, rfl, kk, rfl, _, rfl, iteF fin⟩
        | lst _ _ _ _ => exact ⟨_, rfl, _, .lst, "int", false, rfl, kk, rfl, _, rfl, iteF fin⟩
        | tup _ _ _ _ => exact ⟨_, rfl, _, .tup, "int", false, rfl, kk, rfl, _, rfl, iteF fin⟩
      | bl y =>
        refine ⟨_, rfl, rfl, _, rfl, iteF ⟨_, rfl, _, .bl, "str", false, rfl, trivial, rfl, _, rfl, iteF ⟨_, rfl, _, .bl, "int", true, rfl, trivial, rfl, _, rfl, iteT ?_⟩⟩⟩
        cases h1 with
        | bl x =>
          refine ⟨_, rfl, _, .bl, "int", true, rfl, trivial, rfl, _, rfl, iteT ⟨_, rfl, _, .bl, "bool", true, rfl, trivial, rfl, _, rfl, _, .bl, "bool", true, rfl, trivial, rfl, rfl, _, rfl, iteT ⟨_, rfl, _, rfl, rfl, ?_⟩⟩⟩
          have e : decide (V.bl x = V.bl y) = (Dt.bl x).eqb (.bl y) := dec_bl
          rw [e]
          exact fin
        | int x => exact ⟨_, rfl, _, .int, "int", true, rfl, trivial, rfl, _, rfl, iteT ⟨_, rfl, _, .int, "bool", false, rfl, trivial, rfl, _, rfl, _, .bl, "bool", true, rfl, trivial, rfl, rfl, _, rfl, iteF fin⟩⟩
        | non => exact ⟨_, rfl, _, .non, "int", false, rfl, kk, rfl, _, rfl, iteF fin⟩
        | str _ => exact ⟨_, rfl, _, .str, "int", false, rfl, kk, rfl, _, rfl, iteF fin⟩
        | lst _ _ _ _ => exact ⟨_, rfl, _, .lst, "int", false, rfl, kk, rfl, _, rfl, iteF fin⟩
        | tup _ _ _ _ => exact ⟨_, rfl, _, .tup, "int", false, rfl, kk, rfl, _, rfl, iteF fin⟩
      | @lst a2 xs2 ds2 hq2 hl2 hz2 hx2 =>
        have k2 : kdIs K H (.ref a2) .lst := ⟨_, hq2⟩
        refine ⟨_, rfl, rfl, _, rfl, iteF ⟨_, rfl, _, .lst, "str", false, rfl, k2, rfl, _, rfl, iteF ⟨_, rfl, _, .lst, "int", false, rfl, k2, rfl, _, rfl, iteF ⟨_, rfl, _, .lst, "list", true, rfl, k2, rfl, ?_⟩⟩⟩⟩
        cases h1 with
        | non => exact ⟨_, rfl, _, .non, "list", false, rfl, kk, rfl, rfl, _, rfl, iteT (iteT fin)⟩
        | bl _ => exact ⟨_, rfl, _, .bl, "list", false, rfl, kk, rfl, rfl, _, rfl, iteT (iteT fin)⟩
        | int _ => exact ⟨_, rfl, _, .int, "list", false, rfl, kk, rfl, rfl, _, rfl, iteT (iteT fin)⟩
        | str _ => exact ⟨_, rfl, _, .str, "list", false, rfl, kk, rfl, rfl, _, rfl, iteT (iteT fin)⟩
        | tup _ _ _ _ => exact ⟨_, rfl, _, .tup, "list", false, rfl, kk, rfl, rfl, _, rfl, iteT (iteT fin)⟩
        | @lst a1 xs1 ds1 hq1 hl1 hz1 hx1 =>
          refine ⟨_, rfl, _, .lst, "list", true, rfl, kk, rfl, rfl, _, rfl, iteF ⟨_, rfl, _, .lst, "tuple", false, rfl, k2, rfl, _, rfl, _, .lst, "tuple", false, rfl, kk, rfl, rfl, _, rfl, iteF ?_⟩⟩
          refine ⟨_, rfl, a1, _, rfl, .inl hq1, _, rfl, a2, _, rfl, .inl hq2, rfl, _, rfl, ?_⟩
          refine ite2 (fun c => ?_) (fun c => ?_)
          · have c : V.int ((xs1.length : Nat) : Int) = V.int ((xs2.length : Nat) : Int) := of_decide_eq_true c
            have el : ds1.length = ds2.length := by injection c with c; omega
            cases m with
            | zero => exact absurd hd (by show ¬ 1 + _ ≤ 0; omega)
            | succ m =>
              refine ⟨_, rfl, a2, _, rfl, .inl hq2, _, rfl, by omega, by rw [hl2]; omega, fun p hp => ?_⟩
              have en : ((xs2.length : Nat) : Int).toNat = ds2.length := by omega
              rw [en]
              refine blk_range (fun i σ H2 => ∃ v, σ = [v, some (.ref a1), some (.ref a2)] ∧ Same H H2 ∧ H2 p = some (.lst ((((ds1.zip ds2).map fun q => q.1.eqb q.2).take i).map V.bl))) ⟨none, rfl, Same.new hp, upd_same⟩ ?_ ?_
              · rintro i σ H2 hi ⟨v, rfl, s2, e2⟩
                have e1 : ds1[i]? = some ds1[i] := List.getElem?_eq_getElem (by omega)
                have e2' : ds2[i]? = some ds2[i] := List.getElem?_eq_getElem hi
                have f1 : xs1[i]? = some xs1[i] := List.getElem?_eq_getElem (by omega)
                have f2 : xs2[i]? = some xs2[i] := List.getElem?_eq_getElem (by omega)
                have ei : (0 : Int) + (i : Int) = (i : Int) := Int.zero_add _
                refine turn_all ⟨_, rfl, _, rfl, .inl ⟨a1, _, _, _, rfl, rfl, s2.seq hq1, (by rw [ei]; exact atI_nat f1), _, rfl, _, rfl, .inl ⟨a2, _, _, _, rfl, rfl, s2.seq hq2, (by rw [ei]; exact atI_nat f2), ?_⟩⟩⟩
                refine ⟨_, _, _, _, rfl, (hx1 i _ _ f1 e1).mono s2, (hx2 i _ _ f2 e2').mono s2, ?_, fun H3 s3 => ?_⟩
                · have h1 : 1 + Dt.deep.deeps ds2 ≤ m + 1 := hd
                  have := deep_mem e2'
                  omega
                · refine ⟨_, s3 p _ e2, ?_, _, rfl, fun b o hb => ?_, ?_⟩
                  · rw [List.length_map, List.length_take]
                    exact small1000' (by omega)
                  · rw [upd_ne (ne_of_none hb hp)]
                    exact s3 b o (s2 b o hb)
                  · rw [upd_same]
                    have z : ((ds1.zip ds2).map fun q => q.1.eqb q.2)[i]? = some (ds1[i].eqb ds2[i]) := by
                      rw [List.getElem?_map, (List.getElem?_zip_eq_some (z := (ds1[i], ds2[i]))).mpr ⟨e1, e2'⟩]
                      rfl
                    rw [List.take_add_one, z, List.map_append]
                    rfl
              · rintro σ H2 ⟨v, rfl, s2, e2⟩
                have ek : ((ds1.zip ds2).map fun q => q.1.eqb q.2).take ds2.length = ((ds1.zip ds2).map fun q => q.1.eqb q.2) := List.take_of_length_le (by rw [List.length_map, List.length_zip]; omega)
                rw [ek] at e2
                refine ⟨p, _, rfl, SqL.of e2, ?_⟩
                have := k H2 s2
                have ee : (Dt.lst ds1).eqb (Dt.lst ds2) = ((ds1.zip ds2).map fun q => q.1.eqb q.2).all id := eqbs_all ds1 ds2 el
                rw [ee] at this
                exact this
          · have el : ds1.length ≠ ds2.length := fun z => c (decide_eq_true (by rw [hl1, hl2, z]))
            have ee : (Dt.lst ds1).eqb (Dt.lst ds2) = false := eqbs_len ds1 ds2 el
            rw [ee] at fin
            exact fin
      | @tup a2 xs2 ds2 hq2 hl2 hz2 hx2 =>
        have k2 : kdIs K H (.ref a2) .tup := ⟨_, hq2⟩
        refine ⟨_, rfl, rfl, _, rfl, iteF ⟨_, rfl, _, .tup, "str", false, rfl, k2, rfl, _, rfl, iteF ⟨_, rfl, _, .tup, "int", false, rfl, k2, rfl, _, rfl, iteF ⟨_, rfl, _, .tup, "list", false, rfl, k2, rfl, ?_⟩⟩⟩⟩
        cases h1 with
        | non => exact ⟨_, rfl, _, .non, "list", false, rfl, kk, rfl, rfl, _, rfl, iteF ⟨_, rfl, _, .tup, "tuple", true, rfl, k2, rfl, _, rfl, _, .non, "tuple", false, rfl, kk, rfl, rfl, _, rfl, iteT fin⟩⟩
        | bl _ => exact ⟨_, rfl, _, .bl, "list", false, rfl, kk, rfl, rfl, _, rfl, iteF ⟨_, rfl, _, .tup, "tuple", true, rfl, k2, rfl, _, rfl, _, .bl, "tuple", false, rfl, kk, rfl, rfl, _, rfl, iteT fin⟩⟩
        | int _ => exact ⟨_, rfl, _, .int, "list", false, rfl, kk, rfl, rfl, _, rfl, iteF ⟨_, rfl, _, .tup, "tuple", true, rfl, k2, rfl, _, rfl, _, .int, "tuple", false, rfl, kk, rfl, rfl, _, rfl, iteT fin⟩⟩
        | str _ => exact ⟨_, rfl, _, .str, "list", false, rfl, kk, rfl, rfl, _, rfl, iteF ⟨_, rfl, _, .tup, "tuple", true, rfl, k2, rfl, _, rfl, _, .str, "tuple", false, rfl, kk, rfl, rfl, _, rfl, iteT fin⟩⟩
        | lst _ _ _ _ => exact ⟨_, rfl, _, .lst, "list", true, rfl, kk, rfl, rfl, _, rfl, iteT (iteT fin)⟩
        | @tup a1 xs1 ds1 hq1 hl1 hz1 hx1 =>
          refine ⟨_, rfl, _, .tup, "list", false, rfl, kk, rfl, rfl, _, rfl, iteF ⟨_, rfl, _, .tup, "tuple", true, rfl, k2, rfl, _, rfl, _, .tup, "tuple", true, rfl, kk, rfl, rfl, _, rfl, iteF ?_⟩⟩
          refine ⟨_, rfl, a1, _, rfl, .inr hq1, _, rfl, a2, _, rfl, .inr hq2, rfl, _, rfl, ?_⟩
          refine ite2 (fun c => ?_) (fun c => ?_)
          · have c : V.int ((xs1.length : Nat) : Int) = V.int ((xs2.length : Nat) : Int) := of_decide_eq_true c
            have el : ds1.length = ds2.length := by injection c with c; omega
            cases m with
            | zero => exact absurd hd (by show ¬ 1 + _ ≤ 0; omega)
            | succ m =>
              refine ⟨_, rfl, a2, _, rfl, .inr hq2, _, rfl, by omega, by rw [hl2]; omega, fun p hp => ?_⟩
              have en : ((xs2.length : Nat) : Int).toNat = ds2.length := by omega
              rw [en]
              refine blk_range (fun i σ H2 => ∃ v, σ = [v, some (.ref a1), some (.ref a2)] ∧ Same H H2 ∧ H2 p = some (.lst ((((ds1.zip ds2).map fun q => q.1.eqb q.2).take i).map V.bl))) ⟨none, rfl, Same.new hp, upd_same⟩ ?_ ?_
              · rintro i σ H2 hi ⟨v, rfl, s2, e2⟩
                have e1 : ds1[i]? = some ds1[i] := List.getElem?_eq_getElem (by omega)
                have e2' : ds2[i]? = some ds2[i] := List.getElem?_eq_getElem hi
                have f1 : xs1[i]? = some xs1[i] := List.getElem?_eq_getElem (by omega)
                have f2 : xs2[i]? = some xs2[i] := List.getElem?_eq_getElem (by omega)
                have ei : (0 : Int) + (i : Int) = (i : Int) := Int.zero_add _
                refine turn_all ⟨_, rfl, _, rfl, .inr (.inl ⟨a1, _, _, _, rfl, rfl, s2.seqT hq1, (by rw [ei]; exact atI_nat f1), _, rfl, _, rfl, .inr (.inl ⟨a2, _, _, _, rfl, rfl, s2.seqT hq2, (by rw [ei]; exact atI_nat f2), ?_⟩)⟩)⟩
                refine ⟨_, _, _, _, rfl, (hx1 i _ _ f1 e1).mono s2, (hx2 i _ _ f2 e2').mono s2, ?_, fun H3 s3 => ?_⟩
                · have h1 : 1 + Dt.deep.deeps ds2 ≤ m + 1 := hd
                  have := deep_mem e2'
                  omega
                · refine ⟨_, s3 p _ e2, ?_, _, rfl, fun b o hb => ?_, ?_⟩
                  · rw [List.length_map, List.length_take]
                    exact small1000' (by omega)
                  · rw [upd_ne (ne_of_none hb hp)]
                    exact s3 b o (s2 b o hb)
                  · rw [upd_same]
                    have z : ((ds1.zip ds2).map fun q => q.1.eqb q.2)[i]? = some (ds1[i].eqb ds2[i]) := by
                      rw [List.getElem?_map, (List.getElem?_zip_eq_some (z := (ds1[i], ds2[i]))).mpr ⟨e1, e2'⟩]
                      rfl
                    rw [List.take_add_one, z, List.map_append]
                    rfl
              · rintro σ H2 ⟨v, rfl, s2, e2⟩
                have ek : ((ds1.zip ds2).map fun q => q.1.eqb q.2).take ds2.length = ((ds1.zip ds2).map fun q => q.1.eqb q.2) := List.take_of_length_le (by rw [List.length_map, List.length_zip]; omega)
                rw [ek] at e2
                refine ⟨p, _, rfl, SqL.of e2, ?_⟩
                have := k H2 s2
                have ee : (Dt.tup ds1).eqb (Dt.tup ds2) = ((ds1.zip ds2).map fun q => q.1.eqb q.2).all id := eqbs_all ds1 ds2 el
                rw [ee] at this
                exact this
          · have el : ds1.length ≠ ds2.length := fun z => c (decide_eq_true (by rw [hl1, hl2, z]))
            have ee : (Dt.tup ds1).eqb (Dt.tup ds2) = false := eqbs_len ds1 ds2 el
            rw [ee] at fin
            exact fin
end
end K28
set_option Elab.async false
set_option linter.all false
set_option maxRecDepth 100000
set_option maxHeartbeats 4000000
namespace L2
open PySem PySem.Spec PyProof.Rows
def tx (n : Nat) (c : Nat → Nat) : Str := ⟨((List.range n).map c).toArray⟩
def s1 (c : Nat) : V := .str ⟨#[c]⟩
theorem tx_len (n : Nat) (c : Nat → Nat) : (tx n c).length = n := by show (((List.range n).map c).toArray).size = _; simp
theorem tx_at {n i : Nat} {c : Nat → Nat} (h : i < n) : atI (tx n c).cps.toList (i : Int) = some (c i) := by
  refine atI_nat ?_
  show (((List.range n).map c).toArray.toList)[i]? = _
  simp [h]
theorem tx_snoc (i : Nat) (c : Nat → Nat) : tx i c ++ (⟨#[c i]⟩ : Str) = tx (i + 1) c := by
  show (⟨((List.range i).map c).toArray ++ #[c i]⟩ : Str) = ⟨((List.range (i + 1)).map c).toArray⟩
  simp [List.range_succ]
theorem tx_snoc' {i : Nat} {c : Nat → Nat} {d : Nat} (h : d = c i) : tx i c ++ (⟨#[d]⟩ : Str) = tx (i + 1) c := by rw [h]; exact tx_snoc i c
theorem s1_eq (a b : Nat) : (s1 a = s1 b) = (a = b) := propext ⟨fun h => by
  have h : (⟨#[a]⟩ : Str) = ⟨#[b]⟩ := by injection h
  have h2 : #[a] = #[b] := by injection h
  simpa using h2, fun h => by rw [h]⟩
theorem dec_s1 (a b : Nat) : decide (s1 a = s1 b) = decide (a = b) := decide_eq_decide.mpr (by rw [s1_eq])
theorem tx_rep (n : Nat) : strRep ("-" : Str) (n : Int) = tx n (fun _ => 45) := by
  have f : ∀ (k : Nat) (b : Array Nat), (List.replicate k (#[45] : Array Nat)).foldl (· ++ ·) b = b ++ (List.replicate k 45).toArray := by
    intro k
    induction k with
    | zero => intro b; simp
    | succ k ih =>
      intro b
      rw [List.replicate_succ, List.foldl_cons, ih, List.replicate_succ]
      show b ++ #[45] ++ _ = _
      rw [Array.append_assoc]
      congr 1
      show (#[45] : Array Nat) ++ _ = _
      rw [show (#[45] : Array Nat) = [45].toArray from rfl, List.append_toArray]
      rfl
  unfold strRep
  by_cases h0 : (n : Int) < 1
  · rw [if_pos h0]
    have : n = 0 := by omega
    subst this
    rfl
  · rw [if_neg h0]
    by_cases h1 : n = 1
    · subst h1; rfl
    · have e : (((n : Int) == 1) || (("-" : Str).length == 0)) = false := by
        have : ((n : Int) == 1) = false := by simpa using (by omega : ¬ (n : Int) = 1)
        rw [this]; rfl
      rw [e]
      show (⟨_⟩ : Str) = ⟨_⟩
      have e2 : ((List.range n).map fun _ => 45) = List.replicate n 45 := by
        rw [List.eq_replicate_iff]
        exact ⟨by simp, fun b hb => by obtain ⟨_, _, e⟩ := List.mem_map.mp hb; exact e.symm⟩
      rw [e2]
      congr 1
      show (List.replicate (n : Int).toNat (#[45] : Array Nat)).foldl (· ++ ·) #[] = _
      rw [f]
      show #[] ++ _ = _
      rw [Array.empty_append]
      rfl
end L2
namespace L2
open PySem PySem.Spec PyProof.Rows
section
variable {p T : Addr} {K : PySem.W.Frag} {te : TE} {N : St → Hp → Prop} {x y z : V} {σ : St} {H : Hp}
end
theorem Same.trans' {H H1 H2 : Hp} (a : Same H H1) (b : Same H1 H2) : Same H H2 := fun c o e => b c o (a c o e)
theorem Same.grow {H H2 : Hp} {p : Addr} {o : HO} (hp : H p = none) (s : Same H H2) : Same H (upd H2 p o) := fun b u e => by rw [upd_ne (ne_of_none e hp)]; exact s b u e
end L2
namespace L2
open PySem PySem.Spec PyProof.Rows
def intsOf : List Expr → Option (List Int)
  | [] => some []
  | .Constant (.int i) _ _ :: r => (intsOf r).map (i :: ·)
  | _ => none
def tInts (l : List Int) : TA := fun _ H Q => Q (l.map V.int) H
theorem pa_ints {X : Cx} : ∀ {es : List Expr} {l : List Int}, intsOf es = some l → PA X es (tInts l)
  | [], l, h => by cases h; exact pa_nil
  | .Constant (.int i) j p :: r, l, h => by
    have h : (intsOf r).map (i :: ·) = some l := h
    cases z : intsOf r with
    | none => rw [z] at h; cases h
    | some l' =>
      rw [z] at h
      cases h
      exact pa_cons (e := .Constant (.int i) j p) pe_int (pa_ints z) rfl
end L2
set_option Elab.async false
set_option linter.all false
set_option maxRecDepth 100000
set_option maxHeartbeats 4000000
namespace K28
open PySem L2
abbrev s_bits : Stmt := top 40
theorem map_snoc {α : Type} (f : Nat → α) (i : Nat) : (List.range i).map f ++ [f i] = (List.range (i + 1)).map f := by rw [List.range_succ, List.map_append]; rfl
theorem small_rng (n : Nat) {α : Type} (f : Nat → α) (h : n ≤ 1000) : ((List.range n).map f).length < sizeLine := by rw [List.length_map, List.length_range]; exact Nat.lt_of_le_of_lt h (by decide)
theorem map_bl (f : Nat → Bool) (n : Nat) : ((List.range n).map fun j => V.bl (f j)) = ((List.range n).map f).map V.bl := by rw [List.map_map]; rfl
def hv (d : Int) (x : Int) : Nat → Int
  | 0 => x
  | i + 1 => hv d x i / d
def bitC (x : Int) (i : Nat) : Nat := if hv 2 x i % 2 = 0 then 110 else 121
theorem ny_at (y : Int) : atI ("ny" : Str).cps.toList (y % 2) = some (if y % 2 = 0 then 110 else 121) := by
  by_cases h : y % 2 = 0
  · rw [if_pos h, h]; rfl
  · have : y % 2 = 1 := by omega
    rw [if_neg h, this]; rfl
theorem small_tx (n : Nat) (c : Nat → Nat) (h : n ≤ 1000) : (tx n c).length ≤ sizeLine := by rw [tx_len]; exact Nat.le_trans h (by decide)
theorem small_add (n : Nat) (c : Nat → Nat) (d : Nat) (h : n ≤ 1000) : (tx n c).length + (⟨#[d]⟩ : Str).length ≤ sizeLine := by
  rw [tx_len]
  exact Nat.le_trans (show n + 1 ≤ 1001 by omega) (by decide)
section
variable {P : Program} {w : World} {K : PySem.W.Frag} {mg : Str → Option Value} {base : Heap}
def notM (c : Nat) : Nat := if c = 121 then 110 else 121
def spBits : Sp := fun vs H Q _ => ∃ (x : Int) (n : Nat), vs = [.int x, .int n] ∧ n ≤ 100 ∧ Q (.str (tx n (bitC x))) H
abbrev Nb : List Str := ["_law_number", "_law_n", "_law_row", "_law_k"]
theorem sc_bits : FnScope Nb ["_law_number", "_law_n"] (defScope s_bits) := ⟨rfl, rfl, rfl, by decide +kernel, rfl, by decide +kernel, by decide +kernel⟩
theorem ok_bits {f : Addr} {fd : FuncData} (D : Df K mg "_law_bits" s_bits ["_law_number", "_law_n"] f fd) (B : Bt mg) : FnOk P w K mg base (CXE P w) 1 f fd ["_law_number", "_law_n"] spBits := by
  refine D.F.okN sc_bits (fun vs H Q E h => ?_) (fun cdv A outer s H vs Q E hr h => ?_)
  · obtain ⟨x, n, rfl, _⟩ := h
    rfl
  · obtain ⟨x, n, rfl, hn, q⟩ := h
    refine ⟨_, pss_cons (ps_set (i := 2) sc_bits.nd rfl (Or.inl rfl) pe_str)
      (pss_cons (ps_for PassesOwn.never rfl (pi_range1 (by rfl) B.range (pa_cons (pv 1) pa_nil)) (pg_name (i := 3) sc_bits.nd rfl (Or.inl rfl))
        (pss_cons (ps_set (i := 2) sc_bits.nd rfl (Or.inl rfl) (pe_op op_add_str (pv 2) (pe_ix ix_str pe_str (pe_op op_mod (pv 0) pe_int) (fun _ _ => rfl))))
        (pss_one (ps_set (i := 0) sc_bits.nd rfl (Or.inl rfl) (pe_op op_fdiv (pv 0) pe_int)))))
      (pss_one (ps_ret (pv 2)))), ?_⟩
    refine ⟨_, rfl, _, rfl, by omega, by omega, ?_⟩
    have en : ((n : Nat) : Int).toNat = n := by omega
    rw [en]
    refine for_range (fun i σ H2 => ∃ v, σ = [some (.int (hv 2 x i)), some (.int n), some (.str (tx i (bitC x))), v] ∧ H2 = H) ⟨none, rfl, rfl⟩ ?_ ?_
    · rintro i σ H2 hi ⟨v, rfl, rfl⟩
      refine ⟨_, rfl, _, rfl, _, _, rfl, rfl, (by show (0 : Int) < 2; decide), _, _, _, rfl, rfl, (by decide), ny_at _, _, _, rfl, rfl, small_add i _ _ (by omega), ?_⟩
      refine ⟨_, rfl, _, _, rfl, rfl, ⟨by decide, by decide⟩, ?_⟩
      refine ⟨some (.int (0 + i)), ?_, rfl⟩
      rw [tx_snoc' (show (if hv 2 x i % 2 = 0 then 110 else 121) = bitC x i from rfl)]
      rfl
    · rintro σ H2 ⟨v, rfl, rfl⟩
      exact ⟨_, rfl, q⟩
end
end K28
set_option Elab.async false
set_option linter.all false
set_option maxRecDepth 100000
set_option maxHeartbeats 4000000
namespace K28
open PySem L2
abbrev s_count : Stmt := top 39
abbrev Pb : List Str := ["_law_number", "_law_n"]
abbrev Pdr : List Str := ["_law_cell_here", "_law_parts"]
section
variable {P : Program} {w : World} {K : PySem.W.Frag} {mg : Str → Option Value} {base : Heap}
theorem len_le {n : Nat} (h : n ≤ 100) : n ≤ sizeLine := Nat.le_trans h (by decide)
end
end K28
set_option Elab.async false
set_option linter.all false
set_option maxRecDepth 100000
set_option maxHeartbeats 400000
namespace K28
open PySem L2
def retE : List Stmt → Expr
  | [.Return (some e) _] => e
  | _ => .Constant .none 0 ⟨0, 0, 0, 0⟩
def subA : Expr → Expr
  | .Subscript a _ _ => a
  | e => e
def subB : Expr → Expr
  | .Subscript _ b _ => b
  | e => e
def lstE : Expr → List Expr
  | .List es _ => es
  | _ => []
@[irreducible] def e_ci : Expr := subB (retE (defBody s_count))
@[irreducible] def e_cd : Expr := subA (subB (retE (defBody s_count)))
@[irreducible] def es_cl : List Expr := lstE (subA (retE (defBody s_count)))
theorem cnt_body : defBody s_count = [.Return (some (.Subscript (.List es_cl ⟨170, 11, 170, 51⟩) e_ci ⟨170, 11, 170, 88⟩)) ⟨170, 4, 170, 88⟩] := by delta e_ci es_cl; rfl
theorem ci_eq : e_ci = .Subscript e_cd (.Constant (.int 0) 0 ⟨170, 85, 170, 86⟩) ⟨170, 52, 170, 87⟩ := by delta e_ci e_cd; rfl
theorem cd_eq : e_cd = .Call (.Name "_law_draws" ⟨170, 52, 170, 62⟩) [.Name "_law_cell_here" ⟨170, 63, 170, 77⟩, .List [.Constant (.int 13) 0 ⟨170, 80, 170, 82⟩] ⟨170, 79, 170, 83⟩] [] ⟨170, 52, 170, 84⟩ := by delta e_cd; rfl
theorem cl_ints : intsOf es_cl = some [3, 4, 5, 2, 6, 3, 12, 4, 1, 7, 5, 9, 4] := by delta es_cl; rfl
theorem ci_plain : PlainIx e_ci := by delta e_ci; exact fun _ _ => rfl
section
variable {P : Program} {w : World} {K : PySem.W.Frag} {mg : Str → Option Value} {base : Heap}
def spCount : Sp := fun vs H Q _ => ∃ c : Int, vs = [.int c] ∧ ∀ (n : Nat) H', 1 ≤ n → n ≤ 12 → Same H H' → Q (.int n) H'
theorem sc_count : FnScope ["_law_cell_here"] ["_law_cell_here"] (defScope s_count) := ⟨rfl, rfl, rfl, by decide +kernel, rfl, by decide +kernel, by decide +kernel⟩
theorem cnt_at (i : Nat) (h : i < 13) : ∃ n : Nat, 1 ≤ n ∧ n ≤ 12 ∧ atI (([3, 4, 5, 2, 6, 3, 12, 4, 1, 7, 5, 9, 4] : List Int).map V.int) (i : Int) = some (.int n) := by
  match i, h with
  | 0, _ => exact ⟨3, by decide, by decide, rfl⟩
  | 1, _ => exact ⟨4, by decide, by decide, rfl⟩
  | 2, _ => exact ⟨5, by decide, by decide, rfl⟩
  | 3, _ => exact ⟨2, by decide, by decide, rfl⟩
  | 4, _ => exact ⟨6, by decide, by decide, rfl⟩
  | 5, _ => exact ⟨3, by decide, by decide, rfl⟩
  | 6, _ => exact ⟨12, by decide, by decide, rfl⟩
  | 7, _ => exact ⟨4, by decide, by decide, rfl⟩
  | 8, _ => exact ⟨1, by decide, by decide, rfl⟩
  | 9, _ => exact ⟨7, by decide, by decide, rfl⟩
  | 10, _ => exact ⟨5, by decide, by decide, rfl⟩
  | 11, _ => exact ⟨9, by decide, by decide, rfl⟩
  | 12, _ => exact ⟨4, by decide, by decide, rfl⟩
theorem ok_count {f fr : Addr} {fd gr : FuncData} (D : Df K mg "_law_count" s_count ["_law_cell_here"] f fd) (Dr : Df K mg "_law_draws" s_draws Pdr fr gr) (B : Bt mg) : FnOk P w K mg base (CXE P w) 2 f fd ["_law_cell_here"] spCount := by
  refine D.F.okN sc_count (fun vs H Q E h => ?_) (fun cdv A outer s H vs Q E hr h => ?_)
  · obtain ⟨c, rfl, _⟩ := h
    rfl
  · obtain ⟨c, rfl, k⟩ := h
    rw [cnt_body]
    have x1 := pe_lst (X := (cxOf (CXE P w) P w K mg base ["_law_cell_here"] "_law_count" (defScope s_count) f cdv A outer s H E).nox) (pos := ⟨170, 11, 170, 51⟩) (pa_ints cl_ints)
    have x2 : PE (cxOf (CXE P w) P w K mg base ["_law_cell_here"] "_law_count" (defScope s_count) f cdv A outer s H E).nox e_cd (tCall (spDraws K) [] E0 (tCons (tVar 0) (tCons (tLst (tCons (tC (.int 13)) tNil)) tNil))) := by
      rw [cd_eq]
      exact pe_fn Dr (ok_draws Dr B) hr passN (pa_cons (pv 0) (pa_cons (pe_lst (pa_cons pe_int pa_nil)) pa_nil))
    have x3 : PE (cxOf (CXE P w) P w K mg base ["_law_cell_here"] "_law_count" (defScope s_count) f cdv A outer s H E).nox e_ci (tOp (rIxL K) (tCall (spDraws K) [] E0 (tCons (tVar 0) (tCons (tLst (tCons (tC (.int 13)) tNil)) tNil))) (tC (.int 0))) := by
      rw [ci_eq]
      exact pe_ix ix_list x2 pe_int (fun _ _ => rfl)
    refine ⟨_, pss_one (ps_ret (pe_ix ix_list x1 x3 ci_plain)), ?_⟩
    refine ⟨len_le (show 13 ≤ 100 by decide), fun g hg => ?_⟩
    refine ⟨_, rfl, len_le (show 1 ≤ 100 by decide), fun t ht => ?_⟩
    refine ⟨c, t, [13], rfl, SqL.of upd_same, by decide, by decide, fun u H3 s3 hu e3 => ?_⟩
    have db : 0 ≤ mixM c % 13 ∧ mixM c % 13 < 13 := ⟨Int.emod_nonneg _ (by decide), Int.emod_lt_of_pos _ (by decide)⟩
    obtain ⟨n, n1, n12, en⟩ := cnt_at (mixM c % 13).toNat (by omega)
    have e : (((mixM c % 13).toNat : Nat) : Int) = mixM c % 13 := by omega
    rw [e] at en
    have s03 := (Same.new ht).trans' s3
    refine ⟨u, _, _, .int (mixM c % 13), rfl, rfl, SqL.of e3, rfl, g, _, _, .int n, rfl, rfl, SqL.of (s03 g _ upd_same), en, ?_⟩
    exact k n H3 n1 n12 ((Same.new hg).trans' s03)
end
end K28
set_option Elab.async false
set_option linter.all false
set_option maxRecDepth 100000
set_option maxHeartbeats 4000000
namespace L2
open PySem PySem.Spec PyProof.Rows
section
variable {X : Cx} {pos : Pos}
def gLst (K : PySem.W.Frag) (n : Nat) (t : TGs) : TG := fun v σ H Q => ∃ a xs, v = .ref a ∧ SqL K H a xs ∧ xs.length = n ∧ t xs σ H Q
theorem pg_lst {es : List Expr} {k : Nat} {t : TGs} {n : Nat} (hc : X.calm = true) (h : PGs X es t)
    (hn : (assignEach es X.env).length = n := by rfl) (hst : (assignEach es X.env).findIdx? (·.1) = none := by rfl) : PG X (.Tuple es k pos) (gLst X.K n t) := by
  intro pins s σ H v u Q I r hw
  obtain ⟨a, xs, e1, hq, hl, hw⟩ := hw
  subst e1
  cases r
  obtain ⟨its, rv, ht, hz⟩ := I.list hq
  rw [assign_Tuple]
  refine wpAny_bind (wpAny_standAt ?_)
  unfold unpack
  rw [show (assignEach es X.env).length = its.toArray.size by simp [hn, ← hl, rv.length], hst]
  refine wpAny_bind (wpAny_holding (PySem.W.kun_itemsOf (I.ok.hd hc) ht.isList fun h' hx => ?_))
  have I1 : Inv X pins σ H { s with heap := h' } := I.kept (t' := s.toks) fun b o e => hx b o (Nat.ne_of_lt (Heap.lt_size e)) e
  exact h pins _ σ H xs _ Q I1 (by simpa using rv) hw
theorem ps_weak {X : Cx} {st : Stmt} {t t' : TS} (h : PS X st t) (hm : ∀ D σ H, t' D σ H → t D σ H) : PS X st t' := fun pins s σ H D I q => h pins s σ H D I (hm D σ H q)
end
section
variable {K : PySem.W.Frag} {T p : Addr} {te : TE} {N : St → Hp → Prop} {σ : St} {H : Hp} {x y z u : V}
end
end L2
set_option Elab.async false
set_option linter.all false
set_option maxRecDepth 100000
set_option maxHeartbeats 4000000
namespace L2
open PySem PySem.Spec PyProof.Rows
def Ite (x : Str) : It := ⟨fun i _ => i < x.length, fun i H v H' => ∃ T, v = .ref T ∧ H T = none ∧ H' = upd H T (.tup [.int i, sg x i]), fun i _ => x.length ≤ i⟩
theorem drawsStr {P : Program} {w : World} {A : Around} (hh : A.handled = none) (it : Addr) (x : Str) :
    Draws P w A it [it] x.length (fun i v => ∃ u, v = .str ⟨#[x.cps.getD i 0]⟩ u) (fun i h => StrIt h it x i) where
  live := fun _ _ st => let ⟨o, ho, _⟩ := st.obj; ⟨o, ho⟩
  frame := fun _ _ _ st hk => st.at fun o e => hk it (by simp) o e
  item := fun i s Q E hi st hQ => nextStr_item st (sg_at hi) fun h' t tk st' sb => hQ _ h' tk ⟨t, rfl⟩ st' sb
  done := fun s Q E st hE => nextStr_end hh st (Array.getElem?_eq_none (Nat.le_refl _)) hE
section
variable {P : Program} {w : World} {K : PySem.W.Frag}
def EnSt (e it : Addr) (x : Str) (i : Nat) (h : Heap) : Prop := (∃ old, IsEnum h e it i old) ∧ StrIt h it x i
theorem turn_enum {elts : List Expr} {k : Nat} {pos : Pos} (e it : Addr) (hei : e ≠ it) (x : Str) : Turn P w K (.Tuple elts k pos) (Ite x) [e, it] e (EnSt e it x) where
  mem := by simp
  obj := fun i h st b hb => by
    obtain ⟨⟨old, he⟩, st⟩ := st
    rcases List.mem_cons.mp hb with rfl | hb
    · exact ⟨_, he, fun v q => by cases q⟩
    · rw [List.mem_singleton.mp hb]; exact st.obj
  keep := fun i h h' st k => by
    obtain ⟨⟨old, he⟩, st⟩ := st
    exact ⟨⟨old, k e (by simp) _ he⟩, st.at fun o q => k it (by simp) o q⟩
  item := by
    intro X hP hw hK hc i pins s σ H E I hf st hg
    subst hP hw hK
    have W := WalksT.enumerateD (A := X.A) (drawsStr (P := X.prog) (w := X.w) (A := X.A.in1) (I.ok.hd hc) it x) e hei (by simpa using hei) (by simp)
    refine W.item i s _ _ hg st fun T vals h' tk hv hT hq mid kp => ⟨_, rfl, ?_⟩
    refine W.go elts k pos i T { s with heap := h', toks := tk } _ _ mid fun h'' st' kp' => ?_
    obtain ⟨t, y, ⟨u, rfl⟩, rfl⟩ := hv
    have nT : T ∉ [e, it] := W.apart i T h' mid
    have hq2 : h''.IsTuple T #[Value.int (i : Int) t, Value.str ⟨#[x.cps.getD i 0]⟩ u] := by
      obtain ⟨o, h1, r⟩ := hq
      exact ⟨o, kp' T o nT h1, r⟩
    have fr : H T = none := I.hok.fresh hT
    have I1 : Inv X pins σ (upd H T (.tup [.int i, sg x i])) { s with heap := h'', toks := tk } := by
      refine I.turnLaid (fp := [e, it]) hf (fun b o hb q => kp' b o hb (kp b o hb q)) hT nT ?_
      exact ⟨by show 2 ≤ sizeLine; rw [sizeLine_eq]; omega, _, .cons ⟨t, rfl⟩ (.cons ⟨u, rfl⟩ .nil), hq2⟩
    refine ⟨.ref T, _, I1, rfl, ⟨T, rfl, fr, rfl⟩, st', fun b hb => ?_⟩
    have nb : b ≠ T := fun q => nT (q ▸ hb)
    rw [upd_ne nb]
    exact (hf b hb).1
  done := by
    intro X hP hw hK hc i pins s σ H E I hf st hg
    subst hP hw hK
    obtain ⟨⟨old, he⟩, st⟩ := st
    have hx : x.cps[i]? = none := Array.getElem?_eq_none hg
    have hT : s.TypeIs (.ref e) "enumerate" := ⟨_, he, rfl⟩
    unfold pyNext
    refine wpAny_bind (wpAny_attempt (wpAny_callSpecial?_slot (name := Str.ofString "__next__") hT F.slot_enumerate_next
      (wpAny_call_entry F.slot_enumerate_next hT F.entry_enumerate_next ?_ (F.args_enumerate_next_1 _))))
    show wpAny _ _ (field (.ref e) 2 >>= _) _ _ _
    refine wpAny_bind (wpAny_field he rfl (x := .ref it) rfl ?_)
    refine wpAny_bind (nextStr_end (I.ok.hd hc) st hx fun h' y he' hx' => ?_)
    obtain ⟨o, ho, hcl⟩ := hx'
    refine wpAny_bind (wpAny_isInstance (T := "StopIteration") (b := true) ⟨o, ho, hcl⟩ isSubtype_stop ?_)
    exact wpAny_pure ⟨rfl, I.turnedL (fp := [e, it]) (t' := s.toks) hf fun b o hb q => he' b o (fun z => hb (by simp [z])) q⟩
  self := fun A i s Q E st h => by
    obtain ⟨⟨old, he⟩, _⟩ := st
    exact wpAny_pyIter_enum he h
end
section
variable {X : Cx}
def iEnum (ta : TA) : TI := fun σ H R => ta σ H fun vs H1 => ∃ x, vs = [.str x] ∧ R (Ite x) H1
theorem pi_enum {elts : List Expr} {k : Nat} {tp : Pos} {a : Expr} {ta : TA} {p pos : Pos} (hg : Gl X "enumerate") (hm : X.mg "enumerate" = none) (ha : PA X [a] ta) (hs : starEach [a] X.env = [(false, eval a X.env)] := by rfl) :
    PI X (.Tuple elts k tp) (.Call (.Name "enumerate" p) [a] [] pos) (iEnum ta) := by
  intro pins s σ H R I h
  refine Call_ (ld_blt I hg hm boot_enumerate (PyProof.Rows.callWith_type1 (thn (ha pos pins s σ H _ I h) fun us s1 ⟨vs, H1, I1, r1, q1⟩ => ?_) hs rfl))
  obtain ⟨x, rfl, q⟩ := q1
  obtain ⟨u, rfl, ru⟩ := r1.one
  obtain ⟨t, rfl⟩ := ru
  refine call_enumerate_str fun h' he st hz kp => wpAny_pyIter_enum (s := { s1 with heap := h' }) he ?_
  have hst : StrIt h' s1.heap.objs.size x 0 := ⟨_, t, st, by unfold strIterType; split <;> simp⟩
  refine ⟨_, [s1.heap.objs.size + 1, s1.heap.objs.size], _, _, H1, rfl, I1.kept (t' := s1.toks) kp, turn_enum _ _ (Nat.succ_ne_self _) x, ⟨⟨_, by simpa using he⟩, hst⟩, fun b hb => ?_, q⟩
  have hb' : s1.heap.objs.size ≤ b := by
    simp only [List.mem_cons, List.not_mem_nil, or_false] at hb
    rcases hb with rfl | rfl
    · exact Nat.le_succ _
    · exact Nat.le_refl _
  exact I1.fpOk hb' (I1.hok.fresh hb')
end
section
variable {g : TG} {tb : TS} {D : Ends} {σ : St} {H : Hp} {x : Str}
end
section
variable {p : Addr} {g : TG} {tt : TT} {te : TE} {Q : Hp → Prop} {σ0 : St} {H0 : Hp} {x : Str}
theorem blk_enum (Pv : Nat → St → Hp → Prop) (h0 : Pv 0 σ0 H0) (hs : ∀ i T σ H, i < x.length → H T = none → Pv i σ H → BlkTurn p g tt te (Pv (i + 1)) (.ref T) σ (upd H T (.tup [.int i, sg x i]))) (hd : ∀ σ H, Pv x.length σ H → Q H) :
    tBlk (Ite x) p g tt te σ0 H0 Q := by
  refine ⟨fun i m σ H => m = x.length - i ∧ i ≤ x.length ∧ Pv i σ H, ⟨x.length, by simp, Nat.zero_le _, h0⟩, ?_⟩
  rintro i m σ H ⟨rfl, hi, r⟩
  by_cases hlt : i < x.length
  · refine .inr ⟨hlt, Pv (i + 1), fun σ' H' r => ⟨x.length - (i + 1), by omega, rfl, hlt, r⟩, fun v H' y => ?_⟩
    obtain ⟨T, rfl, hT, rfl⟩ := y
    exact hs i T σ H hlt hT r
  · have e : i = x.length := by omega
    subst e
    exact .inl ⟨Nat.le_refl _, hd σ H r⟩
end
end L2
set_option Elab.async false
set_option linter.all false
set_option maxRecDepth 100000
set_option maxHeartbeats 4000000
namespace L2
open PySem PySem.Spec PyProof.Rows
abbrev TBd := St → Hp → (St → Hp → Prop) → Prop
section
variable {X : Cx} {elt iter tg : Expr} {gens : List Comprehension} {scope : Scope} {cpos : Pos} {ifs : List Expr} {d : Nat} {ip : Pos} {act : Sem Unit} {g : TG} {tt : TT} {tb : TBd} {te : TE} {acc : Value}
end
section
variable {X : Cx} {elt iter tg : Expr} {ifs : List Expr} {rest : List Comprehension} {scope : Scope} {pos : Pos} {N' : List Str} {fm : List (Option Nat)} {wi : TI} {g : TG} {tt : TT} {tb : Addr → TBd}
end
section
variable {K : PySem.W.Frag} {g : TG} {tt : TT} {tb : TBd} {σ0 : St} {H0 : Hp} {Q : St → Hp → Prop} {x : Str}
end
end L2
set_option Elab.async false
set_option linter.all false
set_option maxRecDepth 100000
set_option maxHeartbeats 4000000
namespace L2
open PySem PySem.Spec PyProof.Rows
section
variable {X : Cx} {o : Expr} {td : TE} {p apos cpos pos : Pos}
end
end L2
set_option Elab.async false
set_option linter.all false
set_option maxRecDepth 100000
set_option maxHeartbeats 1000000
namespace L2
open PySem PySem.W
def ch (x : Str) (i : Nat) : Nat := x.cps.getD i 0
structure Row (n : Nat) (x : Str) : Prop where
  len : x.length = n
  bin : ∀ i, i < n → ch x i = 121 ∨ ch x i = 110
structure Kept (rs : List Str) (c : List (Str × Int)) : Prop where
  nd : (c.map (·.1)).Nodup
  look : ∀ x, kprLook c x 0 = (rs.count x : Nat)
  pos : ∀ p ∈ c, 0 < p.2
  sum : kprSum c = (rs.length : Nat)
theorem Kept.nil : Kept [] [] := ⟨List.nodup_nil, fun _ => rfl, fun _ h => (by cases h), rfl⟩
theorem look_mem : ∀ {c : List (Str × Int)} {x : Str}, kprHas c x = true → ∃ p ∈ c, p.1 = x ∧ kprLook c x 0 = p.2
  | [], _, h => by cases h
  | p :: r, x, h => by
    rw [kpr_look_cons]
    by_cases e : p.1 = x
    · exact ⟨p, List.mem_cons_self, e, if_pos e⟩
    · rw [kpr_has_cons, decide_eq_false e, Bool.false_or] at h
      obtain ⟨q, hq, e1, e2⟩ := look_mem h
      exact ⟨q, List.mem_cons_of_mem _ hq, e1, by rw [if_neg e]; exact e2⟩
theorem Kept.has {rs : List Str} {c : List (Str × Int)} (h : Kept rs c) (x : Str) : kprHas c x = true ↔ x ∈ rs := by
  have l := h.look x
  constructor
  · intro y
    obtain ⟨p, hp, _, e2⟩ := look_mem y
    have := h.pos p hp
    exact List.count_pos_iff.mp (by omega)
  · intro y
    cases z : kprHas c x with
    | true => rfl
    | false =>
      rw [kpr_look_none z 0] at l
      have := List.count_pos_iff.mpr y
      omega
def cntB (rs : List Str) (q a r b : Nat) : Nat := rs.countP fun x => decide (ch x q = a ∧ ch x r = b)
def bk (q a r b : Nat) : List Key := [.inl q, .inr ⟨#[a]⟩, .inl r, .inr ⟨#[b]⟩]
theorem bk_eq {q a r b q' a' r' b' : Nat} : bk q a r b = bk q' a' r' b' ↔ q = q' ∧ a = a' ∧ r = r' ∧ b = b' := by
  constructor
  · intro h
    injection h with h1 h
    injection h with h2 h
    injection h with h3 h
    injection h with h4 h
    injection h1 with h1
    injection h2 with h2
    injection h3 with h3
    injection h4 with h4
    have e2 : a = a' := by injection h2 with h2; simpa using h2
    have e4 : b = b' := by injection h4 with h4; simpa using h4
    exact ⟨by omega, e2, by omega, e4⟩
  · rintro ⟨rfl, rfl, rfl, rfl⟩
    rfl
def Both (n : Nat) (f : Nat → Nat → Nat → Nat → Int) (bvs : List (List Key × V)) : Prop := ∀ q a r b, q < n → r < n → (valV bvs (bk q a r b)).getD (.int 0) = .int (f q a r b)
theorem Both.nil {n : Nat} : Both n (fun _ _ _ _ => 0) [] := fun _ _ _ _ _ _ => rfl
theorem Both.congr {n : Nat} {f g : Nat → Nat → Nat → Nat → Int} {bvs : List (List Key × V)} (h : Both n f bvs) (e : ∀ q a r b, q < n → r < n → f q a r b = g q a r b) : Both n g bvs := fun q a r b hq hr => by rw [h q a r b hq hr, e q a r b hq hr]
def tlF (f : Nat → Nat → Nat → Nat → Int) (x : Str) (by' : Int) (i j : Nat) (q a r b : Nat) : Int := f q a r b + if (q < i ∨ (q = i ∧ r < j)) ∧ ch x q = a ∧ ch x r = b then by' else 0
theorem Both.step {n : Nat} {f : Nat → Nat → Nat → Nat → Int} {x : Str} {d : Int} {i j : Nat} {bvs : List (List Key × V)} (h : Both n (tlF f x d i j) bvs) (hi : i < n) (hj : j < n) :
    ∃ v : Int, (valV bvs (bk i (ch x i) j (ch x j))).getD (.int 0) = .int v ∧ Both n (tlF f x d i (j + 1)) (putK bvs (bk i (ch x i) j (ch x j)) (.int (v + d))) := by
  refine ⟨_, h i (ch x i) j (ch x j) hi hj, fun q a r b hq hr => ?_⟩
  rw [valV_put]
  by_cases e : bk q a r b = bk i (ch x i) j (ch x j)
  · rw [if_pos e]
    obtain ⟨rfl, rfl, rfl, rfl⟩ := bk_eq.mp e
    show V.int _ = _
    congr 1
    unfold tlF
    rw [if_neg (by omega), if_pos ⟨.inr ⟨rfl, by omega⟩, rfl, rfl⟩]
    omega
  · rw [if_neg e, h q a r b hq hr]
    congr 1
    unfold tlF
    congr 1
    have : ((q < i ∨ q = i ∧ r < j) ∧ ch x q = a ∧ ch x r = b) ↔ ((q < i ∨ q = i ∧ r < j + 1) ∧ ch x q = a ∧ ch x r = b) := by
      constructor
      · rintro ⟨z, e1, e2⟩
        exact ⟨by omega, e1, e2⟩
      · rintro ⟨z, e1, e2⟩
        refine ⟨?_, e1, e2⟩
        rcases z with z | ⟨z1, z2⟩
        · exact .inl z
        · by_cases e3 : r = j
          · exfalso
            subst z1 e3
            exact e (bk_eq.mpr ⟨rfl, e1.symm, rfl, e2.symm⟩)
          · exact .inr ⟨z1, by omega⟩
    by_cases p : (q < i ∨ q = i ∧ r < j) ∧ ch x q = a ∧ ch x r = b
    · rw [if_pos p, if_pos (this.mp p)]
    · rw [if_neg p, if_neg (fun z => p (this.mpr z))]
theorem Both.turn {n : Nat} {f : Nat → Nat → Nat → Nat → Int} {x : Str} {d : Int} {i : Nat} {bvs : List (List Key × V)} (h : Both n (tlF f x d i n) bvs) : Both n (tlF f x d (i + 1) 0) bvs :=
  h.congr fun q a r b hq hr => by
    unfold tlF
    congr 1
    by_cases p : (q < i ∨ q = i ∧ r < n) ∧ ch x q = a ∧ ch x r = b
    · rw [if_pos p, if_pos ⟨by omega, p.2⟩]
    · rw [if_neg p, if_neg (fun z => p ⟨by omega, z.2⟩)]
theorem Both.start {n : Nat} {f : Nat → Nat → Nat → Nat → Int} {x : Str} {d : Int} {bvs : List (List Key × V)} (h : Both n f bvs) : Both n (tlF f x d 0 0) bvs :=
  h.congr fun q a r b hq hr => by unfold tlF; rw [if_neg (by omega)]; omega
def cntF (rs : List Str) (q a r b : Nat) : Int := (cntB rs q a r b : Nat)
theorem cntB_cons (x : Str) (rs : List Str) (q a r b : Nat) : cntB (x :: rs) q a r b = cntB rs q a r b + if ch x q = a ∧ ch x r = b then 1 else 0 := by
  unfold cntB
  rw [List.countP_cons]
  by_cases h : ch x q = a ∧ ch x r = b <;> simp [h]
theorem Both.take {n : Nat} {rs : List Str} {x : Str} {bvs : List (List Key × V)} (h : Both n (tlF (cntF (x :: rs)) x (-1) n 0) bvs) : Both n (cntF rs) bvs :=
  h.congr fun q a r b hq hr => by
    unfold tlF cntF
    rw [cntB_cons]
    by_cases p : ch x q = a ∧ ch x r = b
    · rw [if_pos p, if_pos ⟨.inl hq, p⟩]; omega
    · rw [if_neg p, if_neg (fun z => p z.2)]; omega
end L2
set_option Elab.async false
set_option linter.all false
set_option maxRecDepth 100000
set_option maxHeartbeats 1000000
namespace K28
open PySem L2
abbrev s_ccount : Stmt := top 10
abbrev s_cquest : Stmt := top 11
abbrev s_csign : Stmt := top 12
abbrev s_cans : Stmt := top 13
abbrev s_only : Stmt := top 17
structure Gm (mg : Str → Option Value) : Prop where
  enum : mg "enumerate" = none
  sum : mg "sum" = none
  sorted : mg "sorted" = none
  dict : mg "dict" = none
  most : ∃ t, mg "MOST_QUESTIONS" = some (.int 12 t)
  signs : ∃ t, mg "SIGNS" = some (.str "ny" t)
def Sign (a : Nat) : Prop := a = 121 ∨ a = 110
section
variable {P : Program} {w : World} {K : PySem.W.Frag} {mg : Str → Option Value} {base : Heap}
def spCcount : Sp := fun vs H Q _ => ∃ n : Nat, vs = [.int n] ∧ 1 ≤ n ∧ n ≤ 12 ∧ Q .non H
theorem sc_ccount : FnScope ["questions"] ["questions"] (defScope s_ccount) := ⟨rfl, rfl, rfl, by decide +kernel, rfl, by decide +kernel, by decide +kernel⟩
theorem ok_ccount {f : Addr} {fd : FuncData} (D : Df K mg "check_count" s_ccount ["questions"] f fd) (M : Gm mg) : FnOk P w K mg base (CXE P w) 1 f fd ["questions"] spCcount := by
  refine D.F.okN sc_ccount (fun vs H Q E h => ?_) (fun cdv A outer s H vs Q E hr h => ?_)
  · obtain ⟨n, rfl, _⟩ := h
    rfl
  · obtain ⟨n, rfl, n1, n12, q⟩ := h
    obtain ⟨t, mQ⟩ := M.most
    refine ⟨_, pss_one (ps_if (PW.pt (pw_or (pt_cmpR op_lt (pv 0) pe_int (nomark _)) (pw_or1 (pt_cmpR op_gt (pv 0) (pe_glob (v := .int 12) (by rfl) mQ ⟨t, rfl⟩) (nomark _))))) (pss_one ps_never) pss_nil), ?_⟩
    refine ⟨_, rfl, _, _, rfl, rfl, _, rfl, ite2 (fun c => ?_) (fun _ => ?_)⟩
    · have c : (n : Int) < 1 := of_decide_eq_true c
      omega
    · refine ⟨_, rfl, _, _, rfl, rfl, _, rfl, ite2 (fun c => ?_) (fun _ => q)⟩
      have c : (12 : Int) < n := of_decide_eq_true c
      omega
abbrev Pcq : List Str := ["question", "questions"]
def spCsign : Sp := fun vs H Q _ => ∃ a : Nat, vs = [s1 a] ∧ Sign a ∧ Q .non H
theorem sc_csign : FnScope ["sign"] ["sign"] (defScope s_csign) := ⟨rfl, rfl, rfl, by decide +kernel, rfl, by decide +kernel, by decide +kernel⟩
theorem ok_csign {f : Addr} {fd : FuncData} (D : Df K mg "check_sign" s_csign ["sign"] f fd) : FnOk P w K mg base (CXE P w) 1 f fd ["sign"] spCsign := by
  refine D.F.okN sc_csign (fun vs H Q E h => ?_) (fun cdv A outer s H vs Q E hr h => ?_)
  · obtain ⟨a, rfl, _⟩ := h
    rfl
  · obtain ⟨a, rfl, ha, k⟩ := h
    refine ⟨_, pss_one (ps_if (PW.pt (pw_and (pt_cmpR op_ne (pv 0) pe_str (nomark _)) (pw_and1 (pt_cmpR op_ne (pv 0) pe_str (nomark _))))) (pss_one ps_never) pss_nil), ?_⟩
    refine ⟨_, rfl, rfl, _, rfl, ite2 (fun c => ?_) (fun _ => iteF k)⟩
    refine ⟨_, rfl, rfl, _, rfl, ite2 (fun c2 => ?_) (fun _ => k)⟩
    have c : (!decide (s1 a = s1 121)) = true := c
    have c2 : (!decide (s1 a = s1 110)) = true := c2
    rw [dec_s1] at c c2
    rcases ha with e | e
    · rw [e] at c; exact absurd c (by decide)
    · rw [e] at c2; exact absurd c2 (by decide)
abbrev Pca : List Str := ["q", "a", "r", "b", "questions"]
abbrev Pon : List Str := ["text", "signs"]
theorem sc_only : FnScope Pon Pon (defScope s_only) := ⟨rfl, rfl, rfl, by decide +kernel, rfl, by decide +kernel, by decide +kernel⟩
theorem nd_on : (["sign", "signs"] : List Str).Nodup := by decide +kernel
end
end K28
set_option Elab.async false
set_option linter.all false
set_option maxRecDepth 100000
set_option maxHeartbeats 1000000
namespace L2
open PySem PySem.Spec PyProof.Rows
section
variable {X : Cx}
end
def Tups (H : Hp) (rs : List Addr) (ks : List (List Key)) : Prop := rs.length = ks.length ∧ ∀ (i : Nat) (r : Addr) (k : List Key), rs[i]? = some r → ks[i]? = some k → H r = some (.tup (k.map kV))
theorem Tups.nil {H : Hp} : Tups H [] [] := ⟨rfl, fun _ _ _ h => by cases h⟩
theorem Tups.mono {H H' : Hp} {rs : List Addr} {ks : List (List Key)} (h : Tups H rs ks) (s : Same H H') : Tups H' rs ks := ⟨h.1, fun i r k a b => s _ _ (h.2 i r k a b)⟩
theorem Tups.upd {H : Hp} {rs : List Addr} {ks : List (List Key)} {p : Addr} {ys zs : List V} (h : Tups H rs ks) (hp : H p = some (.lst ys)) : Tups (upd H p (.lst zs)) rs ks := ⟨h.1, fun i r k a b => by
  have e := h.2 i r k a b
  rw [upd_ne]
  · exact e
  · intro z
    rw [z, hp] at e
    cases e⟩
theorem Tups.append {H : Hp} {rs rs' : List Addr} {ks ks' : List (List Key)} (h : Tups H rs ks) (h' : Tups H rs' ks') : Tups H (rs ++ rs') (ks ++ ks') := by
  refine ⟨by rw [List.length_append, List.length_append, h.1, h'.1], fun i r k hr hk => ?_⟩
  by_cases hi : i < rs.length
  · rw [List.getElem?_append_left hi] at hr
    rw [List.getElem?_append_left (by rw [← h.1]; exact hi)] at hk
    exact h.2 i r k hr hk
  · rw [List.getElem?_append_right (by omega)] at hr
    rw [List.getElem?_append_right (by rw [← h.1]; omega), ← h.1] at hk
    exact h'.2 _ r k hr hk
theorem Tups.one {H : Hp} {T : Addr} {k : List Key} (h : H T = some (.tup (k.map kV))) : Tups H [T] [k] := by
  refine ⟨rfl, fun i r k' hr hk => ?_⟩
  cases i with
  | zero => cases hr; cases hk; exact h
  | succ i => cases hr
theorem Tups.snoc {H : Hp} {rs : List Addr} {ks : List (List Key)} {T : Addr} {k : List Key} (h : Tups H rs ks) (hT : H T = some (.tup (k.map kV))) : Tups H (rs ++ [T]) (ks ++ [k]) := h.append (.one hT)
end L2
set_option Elab.async false
set_option linter.all false
set_option maxRecDepth 100000
set_option maxHeartbeats 1000000
namespace L2
open PySem
structure Acc (H0 : Hp) (p : Addr) (H : Hp) (ks : List (List Key)) : Prop where
  same : Same H0 H
  at_ : ∃ rs : List Addr, H p = some (.lst (rs.map V.ref)) ∧ Tups H rs ks
theorem Acc.put {H0 H H1 : Hp} {p T : Addr} {ks : List (List Key)} {k : List Key} (A : Acc H0 p H ks) (hp : H0 p = none) (s : Same H H1) (hT : H1 T = none) : ∃ ys, upd H1 T (.tup (k.map kV)) p = some (.lst ys) ∧ ys.length = ks.length ∧ Acc H0 p (upd (upd H1 T (.tup (k.map kV))) p (.lst (ys ++ [.ref T]))) (ks ++ [k]) := by
  obtain ⟨s0, rs, e, t⟩ := A
  have s1 := s.trans' (Same.new (o := .tup (k.map kV)) hT)
  have e1 := s1 _ _ e
  refine ⟨_, e1, by rw [List.length_map]; exact t.1, Same.grow hp (s0.trans' s1), rs ++ [T], ?_, ?_⟩
  · rw [upd_same, List.map_append]
    rfl
  · have t1 : Tups (upd H1 T (.tup (k.map kV))) (rs ++ [T]) (ks ++ [k]) := (t.mono s1).snoc upd_same
    exact t1.upd e1
theorem Acc.mono {H0 H H1 : Hp} {p : Addr} {ks : List (List Key)} (A : Acc H0 p H ks) (s : Same H H1) : Acc H0 p H1 ks := by
  obtain ⟨s0, rs, e, t⟩ := A
  exact ⟨s0.trans' s, rs, s _ _ e, t.mono s⟩
theorem Acc.back {H0 H1 H : Hp} {p : Addr} {ks : List (List Key)} (A : Acc H1 p H ks) (s : Same H0 H1) : Acc H0 p H ks := ⟨s.trans' A.same, A.at_⟩
theorem Tups.item {H : Hp} {rs : List Addr} {ks : List (List Key)} (h : Tups H rs ks) {i : Nat} {x : V} (hi : (rs.map V.ref)[i]? = some x) : ∃ r k, x = .ref r ∧ ks[i]? = some k ∧ H r = some (.tup (k.map kV)) := by
  rw [List.getElem?_map] at hi
  cases z : rs[i]? with
  | none => rw [z] at hi; cases hi
  | some r =>
    rw [z] at hi
    cases hi
    have il : i < rs.length := (List.getElem?_eq_some_iff.mp z).1
    have e : ks[i]? = some (ks[i]'(by rw [← h.1]; exact il)) := List.getElem?_eq_getElem (by rw [← h.1]; exact il)
    exact ⟨r, _, rfl, e, h.2 i r _ z e⟩
def sk (q a : Nat) : List Key := [.inl q, .inr ⟨#[a]⟩]
def qk (q r : Nat) : List Key := [.inl q, .inl r]
structure Pat (n : Nat) (x : Str) : Prop where
  len : x.length = n
  sgn : ∀ i, i < n → ch x i = 121 ∨ ch x i = 110 ∨ ch x i = 45
theorem Row.pat {n : Nat} {x : Str} (h : Row n x) : Pat n x := ⟨h.len, fun i hi => (h.bin i hi).imp id .inl⟩
def ansF (x : Str) (q : Nat) : List (Nat × Nat) := if ch x q = 45 then [] else [(q, ch x q)]
def ansG (x : Str) (n : Nat) : List (Nat × Nat) := (List.range n).flatMap (ansF x)
theorem ansG_succ (x : Str) (n : Nat) : ansG x (n + 1) = ansG x n ++ ansF x n := by unfold ansG; rw [List.range_succ, List.flatMap_append]; simp
theorem ansG_len (x : Str) : ∀ n, (ansG x n).length ≤ n
  | 0 => by simp [ansG]
  | n + 1 => by
    rw [ansG_succ, List.length_append]
    have : (ansF x n).length ≤ 1 := by unfold ansF; split <;> simp
    have := ansG_len x n
    omega
theorem ansG_mem {x : Str} {n : Nat} {p : Nat × Nat} (h : p ∈ ansG x n) : p.1 < n ∧ p.2 = ch x p.1 ∧ ¬ p.2 = 45 := by
  obtain ⟨q, hq, h⟩ := List.mem_flatMap.mp h
  unfold ansF at h
  split at h
  · cases h
  · rename_i z
    rw [List.mem_singleton.mp h]
    exact ⟨List.mem_range.mp hq, rfl, z⟩
theorem mem_ansG {x : Str} {n q : Nat} (h : q < n) (z : ¬ ch x q = 45) : (q, ch x q) ∈ ansG x n := by
  refine List.mem_flatMap.mpr ⟨q, List.mem_range.mpr h, ?_⟩
  unfold ansF
  rw [if_neg z]
  exact List.mem_singleton.mpr rfl
def skP (p : Nat × Nat) : List Key := sk p.1 p.2
theorem row_tx {n : Nat} {x : Str} (h : x.length = n) : x = tx n (ch x) := by
  obtain ⟨a⟩ := x
  subst h
  unfold tx
  congr 1
  apply Array.ext
  · simp [Str.length]
  · intro i h1 h2
    simp [ch]
    rw [Array.getElem?_eq_getElem h1]
    rfl
theorem ch_tx {n : Nat} {c : Nat → Nat} {i : Nat} (hi : i < n) : ch (tx n c) i = c i := by
  unfold ch tx
  simp [Array.getD_eq_getD_getElem?, hi]
end L2
set_option Elab.async false
set_option linter.all false
set_option maxRecDepth 100000
set_option maxHeartbeats 1000000
namespace K28
open PySem L2
open PyProof.Rows (envOfC)
abbrev s_ans : Stmt := top 20
section
variable {P : Program} {w : World} {K : PySem.W.Frag} {mg : Str → Option Value} {base : Heap} {C fi fa ft fy fm fc : Addr} {gi ga gt gy gm gc : FuncData}
def spAns : Sp := fun vs H Q _ => ∃ (x : Str) (n : Nat), vs = [.str x] ∧ x.length = n ∧ n ≤ 12 ∧ ∀ p H', H p = none → Acc H p H' ((ansG x n).map skP) → Q (.ref p) H'
theorem sc_ans : FnScope ["pattern"] ["pattern"] (defScope s_ans) := ⟨rfl, rfl, rfl, by decide +kernel, rfl, by decide +kernel, by decide +kernel⟩
theorem nd_ans : (["question", "sign"] : List Str).Nodup := by decide +kernel
theorem ok_ans {f : Addr} {fd : FuncData} (D : Df K mg "answers" s_ans ["pattern"] f fd) (M : Gm mg) : FnOk P w K mg base (CXE P w) 1 f fd ["pattern"] spAns := by
  refine D.F.okN sc_ans (fun vs H Q E h => ?_) (fun cdv A outer s H vs Q E hr h => ?_)
  · obtain ⟨x, n, rfl, _⟩ := h
    rfl
  · obtain ⟨x, n, rfl, hx, n12, k⟩ := h
    refine ⟨_, pss_one (ps_ret (pe_comp (g := gTup K 2 (gCons (gName 0) (gCons (gName 1) gNil))) (N' := ["question", "sign"]) (fm := [none, none]) rfl ⟨rfl, by decide +kernel, by decide +kernel, rfl, rfl, rfl⟩
        (pi_enum (by rfl) M.enum (pa_cons (pv 0) pa_nil))
        (fun _ _ _ _ => pg_tup rfl (pgs_cons (pg_name (i := 0) nd_ans rfl (Or.inl rfl)) (pgs_cons (pg_name (i := 1) nd_ans rfl (Or.inl rfl)) pgs_nil)))
        (fun _ _ _ _ => pif_one (pt_cmpR op_ne (pv 1) pe_str (nomark _)))
        (fun _ _ _ _ => pe_tup (pa_cons (pv 0) (pa_cons (pv 1) pa_nil))))), ?_⟩
    refine ⟨_, rfl, x, rfl, fun p hp => ?_⟩
    refine blk_enum (fun i σ H2 => ∃ v0 v1, σ = [v0, v1] ∧ Acc H p H2 ((ansG x i).map skP)) ⟨none, none, rfl, Same.new hp, [], upd_same, Tups.nil⟩ ?_ ?_
    · rintro i T σ H2 hi hT ⟨v0, v1, rfl, a2⟩
      rw [hx] at hi
      have sT := Same.new (o := .tup [.int i, sg x i]) hT
      refine ⟨T, _, rfl, SqT.of upd_same, rfl, _, _, rfl, _, _, rfl, rfl, ?_⟩
      refine ⟨_, rfl, rfl, _, rfl, ite2 (fun z => ?_) (fun z => ?_)⟩
      · have z : (!decide (s1 (ch x i) = s1 45)) = true := z
        rw [dec_s1] at z
        have z : ¬ ch x i = 45 := by simpa using z
        refine ⟨_, rfl, _, rfl, len_le (show 2 ≤ 100 by decide), fun T2 hT2 => ?_⟩
        obtain ⟨ys, e1, l1, a3⟩ := a2.put (k := skP (i, ch x i)) hp sT hT2
        refine ⟨ys, e1, ?_, _, _, rfl, ?_⟩
        · rw [l1, List.length_map]
          have := ansG_len x i
          exact Nat.lt_of_le_of_lt (show _ ≤ 12 by omega) (by decide)
        · have e : (ansG x (i + 1)).map skP = (ansG x i).map skP ++ [skP (i, ch x i)] := by
            rw [ansG_succ]; unfold ansF; rw [if_neg z, List.map_append]; rfl
          rw [e]
          exact a3
      · have z : ¬ (!decide (s1 (ch x i) = s1 45)) = true := z
        rw [dec_s1] at z
        have z : ch x i = 45 := by simpa using z
        refine ⟨_, _, rfl, ?_⟩
        have e : (ansG x (i + 1)).map skP = (ansG x i).map skP := by
          rw [ansG_succ]; unfold ansF; rw [if_pos z, List.append_nil]
        rw [e]
        exact a2.mono sT
    · rintro σ H2 ⟨v0, v1, rfl, a2⟩
      rw [hx] at a2
      exact k p H2 hp a2
end
end K28
set_option Elab.async false
set_option linter.all false
set_option maxRecDepth 100000
set_option maxHeartbeats 1000000
namespace K28
open PySem L2
open PyProof.Rows (envOfC)
abbrev s_cpat : Stmt := top 14
abbrev s_ispat : Stmt := top 16
section
variable {P : Program} {w : World} {K : PySem.W.Frag} {mg : Str → Option Value} {base : Heap} {C fi fa ft fy fm fc : Addr} {gi ga gt gy gm gc : FuncData}
end
end K28
set_option Elab.async false
set_option linter.all false
set_option maxRecDepth 100000
set_option maxHeartbeats 1000000
namespace L2
open PySem PySem.Spec PyProof.Rows
section
variable {X : Cx}
def rSlX : V → Option Int → Option Int → Hp → VK → Prop := fun x lo hi H Q => ∃ z, x = .str z ∧ z.length ≤ sizeLine ∧ Q (.str (Txt.slice z lo hi)) H
theorem sl_strX : SlR X rSlX := by
  intro pins s σ H x v vl vu lo hi sl Q I rx hs pl pu h
  obtain ⟨z, rfl, hz, q⟩ := h
  obtain ⟨t, rfl⟩ := rx
  have fin : ∀ (t' k : Nat), EP X pins σ Q (.str (Txt.slice z lo hi) t') { s with toks := k } := fun t' k => ⟨.str _, H, I.tok k, ⟨t', rfl⟩, q⟩
  refine ⟨"str", _, slot_str_getitem.lookup, typeIs_str _ _ _, ?_⟩
  cases pl with
  | none =>
    cases pu with
    | none => exact wpAny_getItem_str_slice (l := none) (u := none) (st := none) hs rfl (post_val_or_str ⟨Nat.le_trans (Txt.slice_le z _ _) hz, fun t' k => fin _ _⟩)
    | int j uj => exact wpAny_getItem_str_slice (l := none) (u := some (j, uj)) (st := none) hs rfl (post_val_or_str ⟨Nat.le_trans (Txt.slice_le z _ _) hz, fun t' k => fin _ _⟩)
  | int i ui =>
    cases pu with
    | none => exact wpAny_getItem_str_slice (l := some (i, ui)) (u := none) (st := none) hs rfl (post_val_or_str ⟨Nat.le_trans (Txt.slice_le z _ _) hz, fun t' k => fin _ _⟩)
    | int j uj => exact wpAny_getItem_str_slice (l := some (i, ui)) (u := some (j, uj)) (st := none) hs rfl (post_val_or_str ⟨Nat.le_trans (Txt.slice_le z _ _) hz, fun t' k => fin _ _⟩)
end
theorem slice_run (x : Str) (l u : Option Int) (a b : Nat) (hb : b ≤ x.length) (e : Builtin.Str.strSliceIndices l u 1 x.length = sliceRange a b 1) : (Txt.slice x l u).cps.toList = (x.cps.toList.drop a).take (b - a) := by
  unfold Txt.slice
  rw [e, sliceRange_one]
  by_cases h : ((1 : Int) == 1 && ((List.range (b - a)).map (a + ·)).length == x.length) = true
  · rw [if_pos h]
    rw [List.length_map, List.length_range] at h
    have h : b - a = x.length := by simpa using h
    have ha : a = 0 ∨ x.length = 0 := by omega
    have hs : x.cps.toList.length = x.length := by simp [Str.length]
    rcases ha with ha | ha
    · subst ha
      rw [List.drop_zero, List.take_of_length_le (by omega)]
    · have : x.cps.toList = [] := List.length_eq_zero_iff.mp (by omega)
      rw [this]; simp
  · rw [if_neg h]
    simp only [pick_run]
theorem slice_lo (x : Str) (q : Nat) (hq : q ≤ x.length) : (Txt.slice x none (some q)).cps.toList = x.cps.toList.take q := by
  rw [slice_run x none (some q) 0 q hq]
  · simp
  · unfold Builtin.Str.strSliceIndices
    simp only [show (1 : Int) > 0 by decide, if_true]
    congr 1
    rw [if_neg (by omega)]
    omega
theorem slice_hi (x : Str) (q : Nat) (hq : q ≤ x.length) : (Txt.slice x (some q) none).cps.toList = x.cps.toList.drop q := by
  have hs : x.cps.toList.length = x.length := by simp [Str.length]
  rw [slice_run x (some q) none q x.length (Nat.le_refl _)]
  · exact List.take_of_length_le (by rw [List.length_drop]; omega)
  · unfold Builtin.Str.strSliceIndices
    simp only [show (1 : Int) > 0 by decide, if_true]
    congr 1
    rw [if_neg (by omega)]
    omega
def setC (x : Str) (q a : Nat) (i : Nat) : Nat := if i = q then a else ch x i
theorem toList_tx (n : Nat) (c : Nat → Nat) : (tx n c).cps.toList = (List.range n).map c := by unfold tx; simp
theorem with_tx {n q a : Nat} {x : Str} (hx : x.length = n) (hq : q < n) : Txt.slice x none (some (q : Int)) ++ (⟨#[a]⟩ : Str) ++ Txt.slice x (some ((q : Int) + 1)) none = tx n (setC x q a) := by
  have h1 := slice_lo x q (by omega)
  have h2 := slice_hi x (q + 1) (by omega)
  have eq1 : (((q + 1 : Nat) : Int)) = (q : Int) + 1 := by omega
  rw [eq1] at h2
  have hxl : x.cps.toList = (List.range n).map (ch x) := by
    have := row_tx hx
    rw [this, toList_tx]
    refine List.map_congr_left fun i hi => ?_
    rw [ch_tx (List.mem_range.mp hi)]
  have key : (Txt.slice x none (some (q : Int)) ++ (⟨#[a]⟩ : Str) ++ Txt.slice x (some ((q : Int) + 1)) none).cps.toList = (tx n (setC x q a)).cps.toList := by
    show ((Txt.slice x none (some (q : Int))).cps ++ #[a] ++ (Txt.slice x (some ((q : Int) + 1)) none).cps).toList = _
    rw [Array.toList_append, Array.toList_append, h1, h2, hxl, toList_tx]
    apply List.ext_getElem?
    intro i
    rw [← List.map_take, ← List.map_drop]
    by_cases hi : i < q
    · rw [List.append_assoc, List.getElem?_append_left (by rw [List.length_map, List.length_take, List.length_range]; omega), List.getElem?_map, List.getElem?_map, List.getElem?_take, if_pos hi, List.getElem?_range (by omega)]
      show some (ch x i) = some (setC x q a i)
      unfold setC
      rw [if_neg (by omega)]
    · by_cases he : i = q
      · subst he
        rw [List.getElem?_append_left (by rw [List.length_append, List.length_map, List.length_take, List.length_range]; show i < min i n + 1; omega), List.getElem?_append_right (by rw [List.length_map, List.length_take, List.length_range]; omega), List.length_map, List.length_take, List.length_range, List.getElem?_map, List.getElem?_range hq]
        have : i - min i n = 0 := by omega
        rw [this]
        show some a = some (setC x i a i)
        unfold setC
        rw [if_pos rfl]
      · have l1 : (List.map (ch x) (List.take q (List.range n)) ++ #[a].toList).length = q + 1 := by
          rw [List.length_append, List.length_map, List.length_take, List.length_range]
          show min q n + 1 = q + 1
          omega
        rw [List.getElem?_append_right (by rw [l1]; omega), l1, List.getElem?_map, List.getElem?_drop, List.getElem?_map]
        have e : q + 1 + (i - (q + 1)) = i := by omega
        rw [e]
        by_cases hn : i < n
        · rw [List.getElem?_range hn]
          show some (ch x i) = some (setC x q a i)
          unfold setC
          rw [if_neg he]
        · rw [List.getElem?_eq_none (by rw [List.length_range]; omega)]
          rfl
  have : ∀ s t : Str, s.cps.toList = t.cps.toList → s = t := fun s t h => by
    obtain ⟨s⟩ := s
    obtain ⟨t⟩ := t
    congr 1
    exact Array.toList_inj.mp h
  exact this _ _ key
end L2
set_option Elab.async false
set_option linter.all false
set_option maxRecDepth 100000
set_option maxHeartbeats 1000000
namespace K28
open PySem L2
open PyProof.Rows (envOfC)
abbrev s_with : Stmt := top 18
abbrev s_open : Stmt := top 21
def opnF (x : Str) (q : Nat) : List Nat := if ch x q = 45 then [q] else []
def opnL (x : Str) (n : Nat) : List Nat := (List.range n).flatMap (opnF x)
theorem opn_succ (x : Str) (n : Nat) : opnL x (n + 1) = opnL x n ++ opnF x n := by unfold opnL; rw [List.range_succ, List.flatMap_append]; simp
theorem opn_len (x : Str) : ∀ n, (opnL x n).length ≤ n
  | 0 => by simp [opnL]
  | n + 1 => by
    rw [opn_succ, List.length_append]
    have : (opnF x n).length ≤ 1 := by unfold opnF; split <;> simp
    have := opn_len x n
    omega
theorem opn_mem {x : Str} {n q : Nat} : q ∈ opnL x n ↔ q < n ∧ ch x q = 45 := by
  constructor
  · intro h
    obtain ⟨i, hi, h⟩ := List.mem_flatMap.mp h
    unfold opnF at h
    split at h
    · rename_i z
      rw [List.mem_singleton.mp h]
      exact ⟨List.mem_range.mp hi, z⟩
    · cases h
  · rintro ⟨h1, h2⟩
    refine List.mem_flatMap.mpr ⟨q, List.mem_range.mpr h1, ?_⟩
    unfold opnF
    rw [if_pos h2]
    exact List.mem_singleton.mpr rfl
def vN (q : Nat) : V := .int (q : Nat)
section
variable {P : Program} {w : World} {K : PySem.W.Frag} {mg : Str → Option Value} {base : Heap} {C fi fa ft fy fm fc : Addr} {gi ga gt gy gm gc : FuncData}
def spOpen : Sp := fun vs H Q _ => ∃ (x : Str) (n : Nat), vs = [.str x] ∧ x.length = n ∧ n ≤ 12 ∧ ∀ p H', H p = none → Same H H' → H' p = some (.lst ((opnL x n).map vN)) → Q (.ref p) H'
theorem sc_open : FnScope ["pattern"] ["pattern"] (defScope s_open) := ⟨rfl, rfl, rfl, by decide +kernel, rfl, by decide +kernel, by decide +kernel⟩
theorem ok_open {f : Addr} {fd : FuncData} (D : Df K mg "open_places" s_open ["pattern"] f fd) (M : Gm mg) : FnOk P w K mg base (CXE P w) 1 f fd ["pattern"] spOpen := by
  refine D.F.okN sc_open (fun vs H Q E h => ?_) (fun cdv A outer s H vs Q E hr h => ?_)
  · obtain ⟨x, n, rfl, _⟩ := h
    rfl
  · obtain ⟨x, n, rfl, hx, n12, k⟩ := h
    refine ⟨_, pss_one (ps_ret (pe_comp (g := gTup K 2 (gCons (gName 0) (gCons (gName 1) gNil))) (N' := ["question", "sign"]) (fm := [none, none]) rfl ⟨rfl, by decide +kernel, by decide +kernel, rfl, rfl, rfl⟩
        (pi_enum (by rfl) M.enum (pa_cons (pv 0) pa_nil))
        (fun _ _ _ _ => pg_tup rfl (pgs_cons (pg_name (i := 0) nd_ans rfl (Or.inl rfl)) (pgs_cons (pg_name (i := 1) nd_ans rfl (Or.inl rfl)) pgs_nil)))
        (fun _ _ _ _ => pif_one (pt_cmpR op_eq (pv 1) pe_str (nomark _)))
        (fun _ _ _ _ => pv 0))), ?_⟩
    refine ⟨_, rfl, x, rfl, fun p hp => ?_⟩
    refine blk_enum (fun i σ H2 => ∃ v0 v1, σ = [v0, v1] ∧ Same H H2 ∧ H2 p = some (.lst ((opnL x i).map vN))) ⟨none, none, rfl, Same.new hp, upd_same⟩ ?_ ?_
    · rintro i T σ H2 hi hT ⟨v0, v1, rfl, s2, e2⟩
      rw [hx] at hi
      have sT := Same.new (o := .tup [.int i, sg x i]) hT
      refine ⟨T, _, rfl, SqT.of upd_same, rfl, _, _, rfl, _, _, rfl, rfl, ?_⟩
      refine ⟨_, rfl, rfl, _, rfl, ite2 (fun z => ?_) (fun z => ?_)⟩
      · have z : decide (s1 (ch x i) = s1 45) = true := z
        rw [dec_s1] at z
        have z : ch x i = 45 := by simpa using z
        refine ⟨_, rfl, _, sT _ _ e2, ?_, _, _, rfl, Same.grow hp (s2.trans' sT), ?_⟩
        · rw [List.length_map]
          have := opn_len x i
          exact Nat.lt_of_le_of_lt (show _ ≤ 12 by omega) (by decide)
        · rw [upd_same, opn_succ, List.map_append]
          unfold opnF
          rw [if_pos z]
          rfl
      · have z : ¬ decide (s1 (ch x i) = s1 45) = true := z
        rw [dec_s1] at z
        have z : ¬ ch x i = 45 := by simpa using z
        refine ⟨_, _, rfl, s2.trans' sT, ?_⟩
        rw [opn_succ]
        unfold opnF
        rw [if_neg z, List.append_nil]
        exact sT _ _ e2
    · rintro σ H2 ⟨v0, v1, rfl, s2, e2⟩
      rw [hx] at e2
      exact k p H2 hp s2 e2
def spWith : Sp := fun vs H Q _ => ∃ (x : Str) (n q a : Nat), vs = [.str x, .int q, s1 a] ∧ x.length = n ∧ q < n ∧ n ≤ 100 ∧ Q (.str (tx n (setC x q a))) H
abbrev Pwi : List Str := ["pattern", "question", "sign"]
theorem sc_with : FnScope Pwi Pwi (defScope s_with) := ⟨rfl, rfl, rfl, by decide +kernel, rfl, by decide +kernel, by decide +kernel⟩
theorem ok_with {f : Addr} {fd : FuncData} (D : Df K mg "with_answer" s_with Pwi f fd) : FnOk P w K mg base (CXE P w) 1 f fd Pwi spWith := by
  refine D.F.okN sc_with (fun vs H Q E h => ?_) (fun cdv A outer s H vs Q E hr h => ?_)
  · obtain ⟨x, n, q, a, rfl, _⟩ := h
    rfl
  · obtain ⟨x, n, q, a, rfl, hx, hq, hn, k⟩ := h
    refine ⟨_, pss_one (ps_ret (pe_op op_add_str (pe_op op_add_str (pe_slice sl_strX (pv 0) po_none (po_some (pv 1))) (pv 2)) (pe_slice sl_strX (pv 0) (po_some (pe_op op_add (pv 1) pe_int)) po_none))), ?_⟩
    have sz : x.length ≤ sizeLine := by rw [hx]; exact len_le hn
    have l1 := Txt.slice_le x none (some (q : Int))
    have l2 := Txt.slice_le x (some ((q : Int) + 1)) none
    refine ⟨_, rfl, _, rfl, _, rfl, _, rfl, sz, _, rfl, _, _, rfl, rfl, ?_, _, rfl, _, rfl, _, _, rfl, rfl, _, rfl, _, rfl, sz, _, _, rfl, rfl, ?_, ?_⟩
    · show (Txt.slice x none (some (q : Int))).length + 1 ≤ sizeLine
      rw [sizeLine_eq]; omega
    · have e : (Txt.slice x none (some (q : Int)) ++ (⟨#[a]⟩ : Str)).length = (Txt.slice x none (some (q : Int))).length + 1 := by
        show ((Txt.slice x none (some (q : Int))).cps ++ #[a]).size = _
        rw [Array.size_append]; rfl
      show (Txt.slice x none (some (q : Int)) ++ (⟨#[a]⟩ : Str)).length + (Txt.slice x (some ((q : Int) + 1)) none).length ≤ sizeLine
      rw [e, sizeLine_eq]; omega
    · have := with_tx (a := a) hx hq
      rw [← this] at k
      exact k
end
end K28
set_option Elab.async false
set_option linter.all false
set_option maxRecDepth 100000
set_option maxHeartbeats 1000000
namespace K28
open PySem L2
open PyProof.Rows (envOfC)
abbrev s_other : Stmt := top 15
section
variable {P : Program} {w : World} {K : PySem.W.Frag} {mg : Str → Option Value} {base : Heap} {C fi fa ft fy fm fc : Addr} {gi ga gt gy gm gc : FuncData} {W BC BS fW fC fS : Addr} {gW gC gS : FuncData}
def spOther : Sp := fun vs H Q _ => ∃ a : Nat, vs = [s1 a] ∧ Sign a ∧ Q (s1 (notM a)) H
abbrev N_ot : List Str := ["sign"]
abbrev P_ot : List Str := ["sign"]
theorem sc_ot : FnScope N_ot P_ot (defScope s_other) := ⟨rfl, rfl, rfl, by decide +kernel, rfl, by decide +kernel, by decide +kernel⟩
theorem ok_other {f fs : Addr} {fd gs : FuncData} (D : Df K mg "other" s_other P_ot f fd) (Ds : Df K mg "check_sign" s_csign ["sign"] fs gs) : FnOk P w K mg base (CXE P w) 2 f fd P_ot spOther := by
  refine D.F.okN sc_ot (fun vs H Q E h => ?_) (fun cdv A outer s H vs Q E hr h => ?_)
  · obtain ⟨a, rfl, _⟩ := h
    rfl
  · obtain ⟨a, rfl, ha, k⟩ := h
    refine ⟨_, pss_cons (ps_expr (pe_fn Ds (ok_csign Ds) (hr.mono (by decide)) passN (pa_cons (pv 0) pa_nil)))
      (pss_one (ps_ret (pe_ifExp (pt_cmpR op_eq (pv 0) pe_str (nomark _)) pe_str pe_str))), ?_⟩
    refine ⟨_, rfl, a, rfl, ha, _, rfl, rfl, _, rfl, ite2 (fun c => ?_) (fun c => ?_)⟩
    · have c : decide (s1 a = s1 121) = true := c
      rw [dec_s1] at c
      have c : a = 121 := by simpa using c
      rw [c] at k
      exact k
    · have c : ¬ decide (s1 a = s1 121) = true := c
      rw [dec_s1] at c
      have c : ¬ a = 121 := by simpa using c
      have e : notM a = 121 := if_neg c
      rw [e] at k
      exact k
end
end K28
set_option Elab.async false
set_option linter.all false
set_option maxRecDepth 100000
set_option maxHeartbeats 1000000
namespace K28
open PySem L2
structure Vow where
  q : Nat
  a : Nat
  r : Nat
  b : Nat
def Vow.vals (v : Vow) : List V := [.int v.q, s1 v.a, .int v.r, s1 v.b]
def Vows (K : PySem.W.Frag) (H : Hp) (n : Nat) (rs : List Addr) (vs : List Vow) : Prop := rs.length = vs.length ∧ ∀ (i : Nat) (r : Addr) (v : Vow), rs[i]? = some r → vs[i]? = some v → SqT K H r v.vals ∧ v.q < n ∧ v.r < n
theorem Vows.mono {K : PySem.W.Frag} {H H' : Hp} {n : Nat} {rs : List Addr} {vs : List Vow} (h : Vows K H n rs vs) (s : Same H H') : Vows K H' n rs vs :=
  ⟨h.1, fun i r v a b => ⟨s.seqT (h.2 i r v a b).1, (h.2 i r v a b).2⟩⟩
theorem Vows.at {K : PySem.W.Frag} {H : Hp} {n : Nat} {rs : List Addr} {vs : List Vow} (h : Vows K H n rs vs) {i : Nat} {x : V} (hi : (rs.map V.ref)[i]? = some x) : ∃ r v, x = .ref r ∧ vs[i]? = some v ∧ SqT K H r v.vals ∧ v.q < n ∧ v.r < n := by
  rw [List.getElem?_map] at hi
  cases z : rs[i]? with
  | none => rw [z] at hi; cases hi
  | some r =>
    rw [z] at hi
    cases hi
    have il : i < rs.length := (List.getElem?_eq_some_iff.mp z).1
    have e : vs[i]? = some (vs[i]'(by rw [← h.1]; exact il)) := List.getElem?_eq_getElem (by rw [← h.1]; exact il)
    exact ⟨r, _, rfl, e, h.2 i r _ z e⟩
section
variable {P : Program} {w : World} {K : PySem.W.Frag} {mg : Str → Option Value} {base : Heap}
end
end K28
set_option Elab.async false
set_option linter.all false
set_option maxRecDepth 100000
set_option maxHeartbeats 1000000
namespace K28
open PySem L2
open PyProof.Rows (envOfC)
abbrev s_vows : Stmt := top 42
def forBody : Stmt → List Stmt
  | .For _ _ b _ _ => b
  | _ => []
abbrev b_vows (j : Nat) : Stmt := (defBody s_vows).getD j (.Pass ⟨0, 0, 0, 0⟩)
abbrev c_vows (j : Nat) : Stmt := (forBody (b_vows 3)).getD j (.Pass ⟨0, 0, 0, 0⟩)
abbrev NV : List Str := ["_law_cells", "_law_n", "_law_cell_here", "_law_drawn", "_law_base", "_law_found", "_law_one", "_law_q", "_law_a", "_law_r", "_law_b", "_law_other_one", "_law_near"]
abbrev PV : List Str := ["_law_cells", "_law_n", "_law_cell_here"]
theorem sc_vows : FnScope NV PV (defScope s_vows) := ⟨rfl, rfl, rfl, by decide +kernel, rfl, by decide +kernel, by decide +kernel⟩
section
variable {P : Program} {w : World} {K : PySem.W.Frag} {mg : Str → Option Value} {base : Heap}
abbrev XV (P : Program) (w : World) (K : PySem.W.Frag) (mg : Str → Option Value) (base : Heap) (f : Addr) (cdv : Value) (A : Around) (outer : List Env) (s : Shared) (H : Hp) (E : XK) : Cx :=
  (cxOf (CXE P w) P w K mg base NV "_law_vows" (defScope s_vows) f cdv A outer s H E).nox
variable {f : Addr} {cdv : Value} {A : Around} {outer : List Env} {s : Shared} {H0 : Hp} {E0' : XK}
def tV1 (K : PySem.W.Frag) : TS := fun D σ H => ∃ (v0 v2 v4 v5 v6 v8 v10 v11 : Option V) (n : Nat) (dr : Addr) (d0 d1 d2 : Int) (q r : Nat) (nn : Int),
  σ = [v0, some (.int n), v2, some (.ref dr), v4, v5, v6, some (.int q), v8, some (.int r), v10, v11, some (.int nn)] ∧ 1 ≤ n ∧ r < n ∧ SqL K H dr ([d0, d1, d2].map V.int) ∧
  ∀ r' : Nat, r' < n → D.nx [v0, some (.int n), v2, some (.ref dr), v4, v5, v6, some (.int q), v8, some (.int r'), v10, v11, some (.int nn)] H
theorem vow_if1 (B : Bt mg) : PS (XV P w K mg base f cdv A outer s H0 E0') (c_vows 3) (tV1 K) := by
  refine ps_weak (ps_if (PW.pt (pw_and (pt_cmpR op_gt (pe_ix ix_list (pv 3) pe_int (fun _ _ => rfl)) pe_int (nomark _)) (pw_and1 (pt_cmpR op_gt (pv 12) pe_int (nomark _)))))
    (pss_one (ps_set (i := 9) sc_vows.nd rfl (Or.inl rfl) (pe_op op_mod (pe_op op_add (pv 7) pe_int) (pv 1)))) pss_nil) ?_
  rintro D σ H ⟨v0, v2, v4, v5, v6, v8, v10, v11, n, dr, d0, d1, d2, q, r, nn, rfl, n1, hr, hd, k⟩
  refine ⟨_, rfl, dr, _, _, _, rfl, rfl, hd, rfl, _, _, rfl, rfl, _, rfl, ite2 (fun _ => ?_) (fun _ => ?_)⟩
  · refine ⟨_, rfl, _, _, rfl, rfl, _, rfl, ite2 (fun _ => ?_) (fun _ => ?_)⟩
    · have nI : (0 : Int) < (n : Int) := by omega
      refine ⟨_, rfl, _, _, rfl, rfl, _, rfl, _, _, rfl, rfl, nI, ?_⟩
      have mb : 0 ≤ ((q : Int) + 1) % (n : Int) ∧ ((q : Int) + 1) % (n : Int) < n := ⟨Int.emod_nonneg _ (by omega), Int.emod_lt_of_pos _ nI⟩
      obtain ⟨r', e⟩ : ∃ r' : Nat, (r' : Int) = ((q : Int) + 1) % (n : Int) := ⟨(((q : Int) + 1) % (n : Int)).toNat, by omega⟩
      have := k r' (by omega)
      rw [e] at this
      exact this
    · exact k r hr
  · exact iteF (k r hr)
def tV2 (K : PySem.W.Frag) : TS := fun D σ H => ∃ (v0 v1 v2 v5 v6 v12 : Option V) (n : Nat) (cb : Nat → Nat) (dr : Addr) (d0 d1 d2 : Int) (q a r b : Nat) (oo : Int),
  σ = [v0, v1, v2, some (.ref dr), some (.str (tx n cb)), v5, v6, some (.int q), some (s1 a), some (.int r), some (s1 b), some (.int oo), v12] ∧ n ≤ 100 ∧ q < n ∧ r < n ∧ (∀ i, cb i = 121 ∨ cb i = 110) ∧ (b = 121 ∨ b = 110) ∧ SqL K H dr ([d0, d1, d2].map V.int) ∧
  ∀ (b' : Nat) H', (b' = 121 ∨ b' = 110) → Same H H' → D.nx [v0, v1, v2, some (.ref dr), some (.str (tx n cb)), v5, v6, some (.int q), some (s1 a), some (.int r), some (s1 b'), some (.int oo), v12] H'
theorem vow_if2 (B : Bt mg) : PS (XV P w K mg base f cdv A outer s H0 E0') (c_vows 4) (tV2 K) := by
  refine ps_weak (ps_if (PW.pt (pw_and (pt_cmpR (r := rIn K false) op_in_seq (pe_ix ix_list (pv 3) pe_int (fun _ _ => rfl)) (pe_tup (pa_cons pe_int (pa_cons pe_int (pa_cons pe_int pa_nil)))) (by rfl))
      (pw_and1 (PW.pt (pw_or (pt_cmpR op_gt (pv 11) pe_int (nomark _)) (pw_or1 (pt_cmpR op_gt (pe_ix ix_list (pv 3) pe_int (fun _ _ => rfl)) pe_int (nomark _))))))))
    (pss_one (ps_set (i := 10) sc_vows.nd rfl (Or.inl rfl) (pe_ifExp (pt_cmpR op_eq (pe_ix ix_str (pv 4) (pv 7) (fun _ _ => rfl)) (pv 8) (nomark _)) (pe_ix ix_str (pv 4) (pv 9) (fun _ _ => rfl)) (pv 10)))) pss_nil) ?_
  rintro D σ H ⟨v0, v1, v2, v5, v6, v12, n, cb, dr, d0, d1, d2, q, a, r, b, oo, rfl, hn, hq, hr, hcb, hb, hd, k⟩
  refine ⟨_, rfl, dr, _, _, _, rfl, rfl, hd, rfl, len_le (show 3 ≤ 100 by decide), fun T hT => ?_⟩
  have sT := Same.new (o := .tup [.int 1, .int 2, .int 4]) hT
  have hd' := sT.seq hd
  have fin : ∀ b' : Nat, (b' = 121 ∨ b' = 110) → D.nx [v0, v1, v2, some (.ref dr), some (.str (tx n cb)), v5, v6, some (.int q), some (s1 a), some (.int r), some (s1 b'), some (.int oo), v12] (upd H T (.tup [.int 1, .int 2, .int 4])) := fun b' h => k b' _ h sT
  refine ⟨T, _, rfl, .inr (.inl (.inl upd_same)), rfl, rfl, _, rfl, ite2 (fun _ => ?_) (fun _ => ?_)⟩
  · refine ⟨_, rfl, _, _, rfl, rfl, _, rfl, ite2 (fun _ => iteT ?_) (fun _ => ?_)⟩
    · refine ⟨_, rfl, _, rfl, _, _, _, rfl, rfl, small_tx _ _ (by omega), tx_at hq, _, rfl, rfl, _, rfl, ite2 (fun _ => ?_) (fun _ => ?_)⟩
      · exact ⟨_, rfl, _, rfl, _, _, _, rfl, rfl, small_tx _ _ (by omega), tx_at hr, fin _ (hcb _)⟩
      · exact ⟨_, rfl, fin b hb⟩
    · refine ⟨_, rfl, dr, _, _, _, rfl, rfl, hd', rfl, _, _, rfl, rfl, _, rfl, ite2 (fun _ => ?_) (fun _ => ?_)⟩
      · refine ⟨_, rfl, _, rfl, _, _, _, rfl, rfl, small_tx _ _ (by omega), tx_at hq, _, rfl, rfl, _, rfl, ite2 (fun _ => ?_) (fun _ => ?_)⟩
        · exact ⟨_, rfl, _, rfl, _, _, _, rfl, rfl, small_tx _ _ (by omega), tx_at hr, fin _ (hcb _)⟩
        · exact ⟨_, rfl, fin b hb⟩
      · exact fin b hb
  · exact iteF (fin b hb)
def spVows (K : PySem.W.Frag) : Sp := fun vs H Q _ => ∃ (a : Addr) (xs : List Int) (n : Nat) (c : Int), vs = [.ref a, .int n, .int c] ∧ SqL K H a (xs.map V.int) ∧ xs.length ≤ 100 ∧ 1 ≤ n ∧ n ≤ 12 ∧
  ∀ q H' (rs : List Addr) (vo : List Vow), Same H H' → H q = none → H' q = some (.lst (rs.map V.ref)) → rs.length = xs.length → Vows K H' n rs vo → (∀ v ∈ vo, (v.a = 121 ∨ v.a = 110) ∧ (v.b = 121 ∨ v.b = 110)) → Q (.ref q) H'
theorem yn_at (y : Int) (h : 0 ≤ y) (h2 : y < 2) : ∃ c, (c = 121 ∨ c = 110) ∧ atI ("yn" : Str).cps.toList y = some c := by
  have : y = 0 ∨ y = 1 := by omega
  rcases this with rfl | rfl
  · exact ⟨121, .inl rfl, rfl⟩
  · exact ⟨110, .inr rfl, rfl⟩
theorem bitC_sg (x : Int) (i : Nat) : bitC x i = 121 ∨ bitC x i = 110 := by
  unfold bitC
  split <;> simp
def VowsD (H : Hp) (n : Nat) (rs : List Addr) (vs : List Vow) : Prop := rs.length = vs.length ∧ ∀ (i : Nat) (r : Addr) (v : Vow), rs[i]? = some r → vs[i]? = some v → H r = some (.tup v.vals) ∧ v.q < n ∧ v.r < n
theorem VowsD.to {H : Hp} {n : Nat} {rs : List Addr} {vs : List Vow} (h : VowsD H n rs vs) : Vows K H n rs vs := ⟨h.1, fun i r v a b => ⟨SqT.of (h.2 i r v a b).1, (h.2 i r v a b).2⟩⟩
theorem VowsD.snoc {H H' : Hp} {n : Nat} {rs : List Addr} {vs : List Vow} {q T : Addr} {v : Vow} {ys zs : List V} (h : VowsD H n rs vs) (s : Same H H') (hq : H' q = some (.lst ys)) (hT : H' T = some (.tup v.vals)) (h1 : v.q < n) (h2 : v.r < n) : VowsD (upd H' q (.lst zs)) n (rs ++ [T]) (vs ++ [v]) := by
  refine ⟨by rw [List.length_append, List.length_append, h.1]; rfl, fun i r u hr hu => ?_⟩
  by_cases hi : i < rs.length
  · rw [List.getElem?_append_left hi] at hr
    rw [List.getElem?_append_left (by rw [← h.1]; exact hi)] at hu
    obtain ⟨e, a, b⟩ := h.2 i r u hr hu
    have e' := s r _ e
    refine ⟨?_, a, b⟩
    rw [upd_ne]
    · exact e'
    · intro z
      rw [z, hq] at e'
      cases e'
  · rw [List.getElem?_append_right (by omega)] at hr
    rw [List.getElem?_append_right (by rw [← h.1]; omega)] at hu
    have e0 : i - rs.length = 0 := by
      cases z : i - rs.length with
      | zero => rfl
      | succ m => rw [z] at hr; cases hr
    rw [e0] at hr
    rw [← h.1, e0] at hu
    cases hr
    cases hu
    refine ⟨?_, h1, h2⟩
    rw [upd_ne]
    · exact hT
    · intro z
      rw [z, hq] at hT
      cases hT
theorem go6 (c : Int) (a b d e f g : Int) : drawsGo c [a, b, d, e, f, g] = [c % a, c / a % b, c / a / b % d, c / a / b / d % e, c / a / b / d / e % f, c / a / b / d / e / f % g] := rfl
theorem ok_vows {f fr fb : Addr} {fd gr gb : FuncData} (D : Df K mg "_law_vows" s_vows PV f fd) (Dr : Df K mg "_law_draws" s_draws Pdr fr gr) (Db : Df K mg "_law_bits" s_bits Pb fb gb) (B : Bt mg) : FnOk P w K mg base (CXE P w) 2 f fd PV (spVows K) := by
  refine D.F.okN sc_vows (fun vs H Q E h => ?_) (fun cdv A outer s H vs Q E hr h => ?_)
  · obtain ⟨a, xs, n, c, rfl, _⟩ := h
    rfl
  · obtain ⟨a, xs, n, c, rfl, hS, hl, n1, n12, k⟩ := h
    refine ⟨_, pss_cons (ps_set (i := 3) sc_vows.nd rfl (Or.inl rfl) (pe_fn Dr (ok_draws Dr B) hr passN (pa_cons (pv 2) (pa_cons (pe_lst (pa_cons pe_int (pa_cons pe_int (pa_cons pe_int pa_nil)))) pa_nil))))
      (pss_cons (ps_set (i := 4) sc_vows.nd rfl (Or.inl rfl) (pe_fn Db (ok_bits Db B) hr passN (pa_cons (pe_ix ix_list (pv 3) pe_int (fun _ _ => rfl)) (pa_cons (pv 1) pa_nil))))
      (pss_cons (ps_set (i := 5) sc_vows.nd rfl (Or.inl rfl) (pe_lst pa_nil))
      (pss_cons (ps_for PassesOwn.never rfl (pi_list (pv 0)) (pg_name (i := 6) sc_vows.nd rfl (Or.inl rfl))
        (pss_cons (ps_asg (pe_fn Dr (ok_draws Dr B) hr passN (pa_cons (pv 6) (pa_cons (pe_lst (pa_cons (pv 1) (pa_cons pe_int (pa_cons (pv 1) (pa_cons pe_int (pa_cons pe_int (pa_cons pe_int pa_nil))))))) pa_nil)))
          (pg_lst rfl (pgs_cons (pg_name (i := 7) sc_vows.nd rfl (Or.inl rfl)) (pgs_cons (pg_name (i := 8) sc_vows.nd rfl (Or.inl rfl)) (pgs_cons (pg_name (i := 9) sc_vows.nd rfl (Or.inl rfl)) (pgs_cons (pg_name (i := 10) sc_vows.nd rfl (Or.inl rfl)) (pgs_cons (pg_name (i := 11) sc_vows.nd rfl (Or.inl rfl)) (pgs_cons (pg_name (i := 12) sc_vows.nd rfl (Or.inl rfl)) pgs_nil))))))))
        (pss_cons (ps_set (i := 8) sc_vows.nd rfl (Or.inl rfl) (pe_ix ix_str pe_str (pv 8) (fun _ _ => rfl)))
        (pss_cons (ps_set (i := 10) sc_vows.nd rfl (Or.inl rfl) (pe_ix ix_str pe_str (pv 10) (fun _ _ => rfl)))
        (pss_cons (vow_if1 B)
        (pss_cons (vow_if2 B)
        (pss_one (ps_expr (pe_bm PySem.F.plainAttrs_list PySem.F.slot_list_append PySem.F.type_list_append mt_append (pv 5) (pa_cons (pe_tup (pa_cons (pv 7) (pa_cons (pv 8) (pa_cons (pv 9) (pa_cons (pv 10) pa_nil))))) pa_nil))))))))))
      (pss_one (ps_ret (pv 5)))))), ?_⟩
    refine ⟨_, rfl, len_le (show 3 ≤ 100 by decide), fun t ht => ?_⟩
    refine ⟨c, t, [5, 8192, 4], rfl, SqL.of upd_same, by decide, by decide, fun u H1 s1' hu e1 => ?_⟩
    have s01 : Same H H1 := (Same.new ht).trans' s1'
    refine ⟨_, rfl, u, _, _, _, rfl, rfl, SqL.of e1, rfl, _, rfl, _, n, rfl, by omega, ?_⟩
    refine ⟨Nat.zero_le _, fun q hq => ?_⟩
    have hqH : H q = none := by
      cases z : H q with
      | none => rfl
      | some o => rw [s01 q o z] at hq; cases hq
    refine ⟨_, rfl, a, rfl, ⟨_, (Same.new hq).seq (s01.seq hS)⟩, for_list (K := K) (a := a) (xs := xs.map V.int) (fun i σ H2 => ∃ v6 v7 v8 v9 v10 v11 v12 rs vo, σ = [some (.ref a), some (.int n), some (.int c), some (.ref u), some (.str (tx n (bitC (mixM c / 5 % 8192)))), some (.ref q), v6, v7, v8, v9, v10, v11, v12] ∧ Same H1 H2 ∧ H2 q = some (.lst (rs.map V.ref)) ∧ rs.length = i ∧ VowsD H2 n rs vo ∧ (∀ v ∈ vo, (v.a = 121 ∨ v.a = 110) ∧ (v.b = 121 ∨ v.b = 110)))
      ⟨none, none, none, none, none, none, none, [], [], rfl, Same.new hq, upd_same, rfl, ⟨rfl, fun _ _ _ h => by cases h⟩, fun _ h => by cases h⟩ (fun i σ H2 _ ⟨_, _, _, _, _, _, _, _, _, _, s2, _⟩ => s2.seq (s01.seq hS)) ?_ ?_⟩
    · rintro i y σ H2 hi ⟨v6, v7, v8, v9, v10, v11, v12, rs, vo, rfl, s2, e2, lr, hv, hsv⟩
      rw [List.getElem?_map] at hi
      cases z : xs[i]? with
      | none => rw [z] at hi; cases hi
      | some d =>
        rw [z] at hi
        cases hi
        have il : i < xs.length := (List.getElem?_eq_some_iff.mp z).1
        have nI : (0 : Int) < (n : Int) := by omega
        obtain ⟨qn, an, rn, bn, oo, nn, ed, hqn, ha1, ha2, hrn, hb1, hb2⟩ : ∃ (qn : Nat) (an : Int) (rn : Nat) (bn oo nn : Int), drawsM d [(n : Int), 2, (n : Int), 2, 17, 3] = [(qn : Int), an, (rn : Int), bn, oo, nn] ∧ qn < n ∧ 0 ≤ an ∧ an < 2 ∧ rn < n ∧ 0 ≤ bn ∧ bn < 2 := by
          have b1 : 0 ≤ mixM d % (n : Int) ∧ mixM d % (n : Int) < n := ⟨Int.emod_nonneg _ (by omega), Int.emod_lt_of_pos _ nI⟩
          have b2 : 0 ≤ mixM d / (n : Int) / 2 % (n : Int) ∧ mixM d / (n : Int) / 2 % (n : Int) < n := ⟨Int.emod_nonneg _ (by omega), Int.emod_lt_of_pos _ nI⟩
          refine ⟨(mixM d % (n : Int)).toNat, mixM d / (n : Int) % 2, (mixM d / (n : Int) / 2 % (n : Int)).toNat, mixM d / (n : Int) / 2 / (n : Int) % 2, mixM d / (n : Int) / 2 / (n : Int) / 2 % 17, mixM d / (n : Int) / 2 / (n : Int) / 2 / 17 % 3, ?_, by omega, Int.emod_nonneg _ (by decide), Int.emod_lt_of_pos _ (by decide), by omega, Int.emod_nonneg _ (by decide), Int.emod_lt_of_pos _ (by decide)⟩
          unfold drawsM
          rw [go6, Int.toNat_of_nonneg b1.1, Int.toNat_of_nonneg b2.1]
        refine ⟨_, rfl, _, rfl, _, rfl, len_le (show 6 ≤ 100 by decide), fun t2 ht2 => ?_⟩
        refine ⟨d, t2, [(n : Int), 2, (n : Int), 2, 17, 3], rfl, SqL.of upd_same, ?_, (show 6 ≤ 100 by decide), fun g H3 s3 hg e3 => ?_⟩
        · intro x hx
          simp only [List.mem_cons, List.not_mem_nil, or_false] at hx
          omega
        rw [ed] at e3
        obtain ⟨ac, sac, eac⟩ := yn_at an ha1 ha2
        obtain ⟨bc, sbc, ebc⟩ := yn_at bn hb1 hb2
        have s23 : Same H2 H3 := (Same.new ht2).trans' s3
        refine ⟨g, _, rfl, SqL.of e3, rfl, _, _, rfl, _, _, rfl, _, _, rfl, _, _, rfl, _, _, rfl, _, _, rfl, rfl, ?_⟩
        refine ⟨_, rfl, _, _, _, rfl, rfl, (by decide), eac, ?_⟩
        refine ⟨_, rfl, _, _, _, rfl, rfl, (by decide), ebc, ?_⟩
        have hu3 : SqL K H3 u ([mixM c % 5, mixM c / 5 % 8192, mixM c / 5 / 8192 % 4].map V.int) := SqL.of (s23 u _ (s2 u _ e1))
        refine ⟨_, _, _, _, _, _, _, _, n, u, _, _, _, qn, rn, nn, rfl, n1, hrn, hu3, fun r' hr' => ?_⟩
        refine ⟨_, _, _, _, _, _, n, _, u, _, _, _, qn, ac, r', bc, oo, rfl, by omega, hqn, hr', (fun i => bitC_sg _ i), sbc, hu3, fun b' H4 sb' s4 => ?_⟩
        have s24 := s23.trans' s4
        refine ⟨_, rfl, .inl ⟨rfl, _, SqL.of (s24 q _ e2)⟩, _, rfl, _, rfl, _, rfl, _, rfl, len_le (show 4 ≤ 100 by decide), fun T hT => ?_⟩
        have e5 := Same.new (o := .tup (Vow.vals ⟨qn, ac, r', b'⟩)) hT q _ (s24 q _ e2)
        refine ⟨q, _, _, rfl, rfl, e5, ?_, ?_⟩
        · rw [List.length_map]
          exact Nat.lt_of_le_of_lt (show _ ≤ 100 by omega) (by decide)
        refine ⟨_, _, _, _, _, _, _, rs ++ [T], vo ++ [⟨qn, ac, r', b'⟩], rfl, Same.grow hq (s2.trans' (s24.trans' (Same.new hT))), ?_, ?_, hv.snoc (s24.trans' (Same.new hT)) e5 upd_same hqn hr', ?_⟩
        · rw [upd_same, List.map_append]
          rfl
        · rw [List.length_append, lr]
          rfl
        · intro v hv'
          rcases List.mem_append.mp hv' with h | h
          · exact hsv v h
          · rw [List.mem_singleton.mp h]; exact ⟨sac, sb'⟩
    · rintro σ H2 ⟨v6, v7, v8, v9, v10, v11, v12, rs, vo, rfl, s2, e2, lr, hv, hsv⟩
      rw [List.length_map] at lr
      exact ⟨_, rfl, k q H2 rs vo (s01.trans' s2) hqH e2 lr hv.to hsv⟩
end
end K28
set_option Elab.async false
set_option linter.all false
set_option maxRecDepth 100000
set_option maxHeartbeats 1000000
namespace L2
open PySem
abbrev An := Nat × Nat
def nt (s : Nat) : Nat := if s = 121 then 110 else 121
def ng (p : An) : An := (p.1, nt p.2)
def Ok (n : Nat) (p : An) : Prop := p.1 < n ∧ (p.2 = 121 ∨ p.2 = 110)
theorem nt_nt {s : Nat} (h : s = 121 ∨ s = 110) : nt (nt s) = s := by rcases h with rfl | rfl <;> rfl
theorem nt_sg (s : Nat) : nt s = 121 ∨ nt s = 110 := by unfold nt; split <;> simp
theorem sg_cases {s t : Nat} (h : s = 121 ∨ s = 110) (h' : t = 121 ∨ t = 110) : t = s ∨ t = nt s := by rcases h with rfl | rfl <;> rcases h' with rfl | rfl <;> simp [nt]
theorem Ok.ng {n : Nat} {p : An} (h : Ok n p) : Ok n (ng p) := ⟨h.1, nt_sg _⟩
structure Gr (n : Nat) (E : An → An → Prop) : Prop where
  skew : ∀ {p q}, E p q → E (ng q) (ng p)
  fst : ∀ {p q}, E p q → Ok n p
  snd : ∀ {p q}, E p q → Ok n q
inductive Rch (E : An → An → Prop) : An → An → Prop
  | refl (p : An) : Rch E p p
  | step {p q r : An} : Rch E p q → E q r → Rch E p r
theorem Rch.trans {E : An → An → Prop} {p q r : An} (h : Rch E p q) (h' : Rch E q r) : Rch E p r := by
  induction h' with
  | refl => exact h
  | step _ e ih => exact ih.step e
theorem Rch.one {E : An → An → Prop} {p q : An} (e : E p q) : Rch E p q := (Rch.refl p).step e
theorem Rch.skew {n : Nat} {E : An → An → Prop} (g : Gr n E) {p q : An} (h : Rch E p q) : Rch E (ng q) (ng p) := by
  induction h with
  | refl => exact .refl _
  | step _ e ih => exact (Rch.one (g.skew e)).trans ih
theorem Rch.ok {n : Nat} {E : An → An → Prop} (g : Gr n E) {p q : An} (h : Rch E p q) (o : Ok n p) : Ok n q := by
  cases h with
  | refl => exact o
  | step _ e => exact g.snd e
structure Wk (E : An → An → Prop) (p q : An) (ws : List An) : Prop where
  fst : ws[0]? = some p
  lst : ws[ws.length - 1]? = some q
  mid : ∀ i a b, ws[i]? = some a → ws[i + 1]? = some b → E a b
theorem Wk.pos {E : An → An → Prop} {p q : An} {ws : List An} (h : Wk E p q ws) : 0 < ws.length := (List.getElem?_eq_some_iff.mp h.fst).1
theorem Wk.one (E : An → An → Prop) (p : An) : Wk E p p [p] := ⟨rfl, rfl, fun i a b h h' => by
  cases i with
  | zero => cases h'
  | succ i => cases h⟩
theorem Wk.snoc {E : An → An → Prop} {p q r : An} {ws : List An} (h : Wk E p q ws) (e : E q r) : Wk E p r (ws ++ [r]) := by
  have := h.pos
  refine ⟨by rw [List.getElem?_append_left (by omega)]; exact h.fst, by rw [List.length_append]; simp, fun i a b ha hb => ?_⟩
  have l1 := (List.getElem?_eq_some_iff.mp hb).1
  rw [List.length_append] at l1
  have l1 : i + 1 < ws.length + 1 := l1
  rw [List.getElem?_append_left (by omega)] at ha
  by_cases c : i + 1 < ws.length
  · rw [List.getElem?_append_left c] at hb
    exact h.mid i a b ha hb
  · have z : i = ws.length - 1 := by omega
    subst z
    rw [List.getElem?_append_right (by omega), show ws.length - 1 + 1 - ws.length = 0 by omega] at hb
    cases hb
    rw [h.lst] at ha
    cases ha
    exact e
theorem Wk.upto {E : An → An → Prop} {p q : An} {ws : List An} (h : Wk E p q ws) : ∀ (i : Nat) (a : An), ws[i]? = some a → Rch E p a
  | 0, a, ha => by rw [h.fst] at ha; cases ha; exact .refl _
  | i + 1, a, ha => by
    have il := (List.getElem?_eq_some_iff.mp ha).1
    have e : ws[i]? = some (ws[i]'(by omega)) := List.getElem?_eq_getElem _
    exact (h.upto i _ e).step (h.mid i _ a e ha)
theorem Wk.rch {E : An → An → Prop} {p q : An} {ws : List An} (h : Wk E p q ws) : Rch E p q := h.upto _ _ h.lst
theorem Wk.cat {E : An → An → Prop} {p q r : An} {ws vs : List An} (h : Wk E p q ws) (h' : Wk E q r vs) : Wk E p r (ws ++ vs.drop 1) := by
  have l1 := h.pos
  have l2 := h'.pos
  have ld : (vs.drop 1).length = vs.length - 1 := List.length_drop
  have hl : (ws ++ vs.drop 1).length = ws.length + (vs.length - 1) := by rw [List.length_append, ld]
  have at2 : ∀ i, i < vs.length → (ws ++ vs.drop 1)[ws.length - 1 + i]? = vs[i]? := fun i hi => by
    cases i with
    | zero => rw [List.getElem?_append_left (by omega), Nat.add_zero, h.lst, h'.fst]
    | succ i => rw [List.getElem?_append_right (by omega), List.getElem?_drop]; congr 1; omega
  refine ⟨by rw [List.getElem?_append_left (by omega)]; exact h.fst, ?_, fun i a b ha hb => ?_⟩
  · rw [hl, show ws.length + (vs.length - 1) - 1 = ws.length - 1 + (vs.length - 1) by omega, at2 _ (by omega)]
    exact h'.lst
  · by_cases c : i + 1 < ws.length
    · rw [List.getElem?_append_left (by omega)] at ha
      rw [List.getElem?_append_left c] at hb
      exact h.mid i a b ha hb
    · have ib := (List.getElem?_eq_some_iff.mp hb).1
      rw [hl] at ib
      obtain ⟨j, rfl⟩ : ∃ j, i = ws.length - 1 + j := ⟨i - (ws.length - 1), by omega⟩
      rw [at2 j (by omega)] at ha
      rw [Nat.add_assoc, at2 (j + 1) (by omega)] at hb
      exact h'.mid j a b ha hb
def Torn (n : Nat) (E : An → An → Prop) : Prop := ∃ q, q < n ∧ Rch E (q, 110) (q, 121) ∧ Rch E (q, 121) (q, 110)
def Clo (E : An → An → Prop) (x : Str) : Prop := ∀ p q, E p q → ch x p.1 = p.2 → ch x q.1 = q.2
theorem Clo.rch {E : An → An → Prop} {x : Str} (h : Clo E x) {p q : An} (r : Rch E p q) (e : ch x p.1 = p.2) : ch x q.1 = q.2 := by
  induction r with
  | refl => exact e
  | step _ e' ih => exact h _ _ e' ih
def HClash (E : An → An → Prop) (x : Str) (p : An) : Prop := ∃ q, Rch E p q ∧ (ch x q.1 = nt q.2 ∨ Rch E p (ng q))
structure Held (n : Nat) (E : An → An → Prop) (x : Str) (p : An) (z : Str) : Prop where
  pat : Pat n z
  all : ∀ q, Rch E p q → ch z q.1 = q.2
  old : ∀ i, i < n → ¬ ch x i = 45 → ch z i = ch x i
  new : ∀ i, i < n → ch z i = ch x i ∨ Rch E p (i, ch z i)
theorem Held.clo {n : Nat} {E : An → An → Prop} {x z : Str} {p : An} (g : Gr n E) (h : Held n E x p z) (c : Clo E x) : Clo E z := by
  intro u v e eu
  rcases h.new u.1 (g.fst e).1 with w | w
  · have a := c u v e (by rw [← w]; exact eu)
    rw [h.old v.1 (g.snd e).1 (by rw [a]; rcases (g.snd e).2 with s | s <;> rw [s] <;> decide)]
    exact a
  · rw [eu] at w
    exact h.all v (w.step e)
def Quarrel (E : An → An → Prop) (gs : List An) : Prop := ∃ p ∈ gs, ∃ p' ∈ gs, ∃ q, Rch E p q ∧ Rch E p' (ng q)
structure HAll (n : Nat) (E : An → An → Prop) (gs : List An) (z : Str) : Prop where
  pat : Pat n z
  clo : Clo E z
  all : ∀ p ∈ gs, ch z p.1 = p.2
  src : ∀ i, i < n → ch z i = 45 ∨ ∃ p ∈ gs, Rch E p (i, ch z i)
theorem HAll.next {n : Nat} {E : An → An → Prop} {gs : List An} {z y : Str} {p : An} (g : Gr n E) (h : HAll n E gs z) (op : Ok n p) (ok : ∀ p ∈ gs, Ok n p) (d : Held n E z p y) : HAll n E (gs ++ [p]) y := by
  refine ⟨d.pat, d.clo g h.clo, fun u hu => ?_, fun i hi => ?_⟩
  · rcases List.mem_append.mp hu with hu | hu
    · have a := h.all u hu
      rw [d.old u.1 (ok u hu).1 (by rw [a]; rcases (ok u hu).2 with s | s <;> rw [s] <;> decide)]
      exact a
    · rw [List.mem_singleton.mp hu]
      exact d.all p (.refl p)
  · rcases d.new i hi with w | w
    · rw [w]
      rcases h.src i hi with a | ⟨u, hu, a⟩
      · exact .inl a
      · exact .inr ⟨u, List.mem_append_left _ hu, a⟩
    · exact .inr ⟨p, List.mem_append_right _ (List.mem_singleton.mpr rfl), w⟩
theorem HAll.none {n : Nat} {E : An → An → Prop} {gs more : List An} {z : Str} {p : An} (g : Gr n E) (h : HAll n E gs z) (op : Ok n p) (c : HClash E z p) : Quarrel E (gs ++ p :: more) := by
  obtain ⟨q, r, w⟩ := c
  have oq := r.ok g op
  have mp : p ∈ gs ++ p :: more := List.mem_append_right _ List.mem_cons_self
  rcases w with w | w
  · rcases h.src q.1 oq.1 with a | ⟨u, hu, a⟩
    · rw [a] at w
      exact absurd w (by rcases nt_sg q.2 with e | e <;> rw [e] <;> decide)
    · rw [w] at a
      exact ⟨p, mp, u, List.mem_append_left _ hu, q, r, a⟩
  · exact ⟨p, mp, p, mp, q, r, w⟩
end L2
set_option Elab.async false
set_option linter.all false
set_option maxRecDepth 100000
set_option maxHeartbeats 1000000
namespace L2
open PySem PySem.Spec
section
variable {prog : Program} {w : World} {A : Around} {E : Value → Shared → Prop} {s : Shared}
theorem iter_dict {d : Addr} {o : Obj} {es : Array DictEntry} {ep : Nat} {Q : Value → Shared → Prop} (hd : (d == sysModules) = false) (ho : s.heap.get? d = some o) (hx : o.ExactDict) (hdat : o.data = .dict es ep)
    (hQ : Q (.ref s.heap.objs.size) { s with heap := s.heap.push { cls := .type "dict_keyiterator", data := .fields #[.ref d, .int 0 0, .int es.size 0, .int ep 0] } }) :
    wpAny (model prog w) A (pyIter (.ref d)) Q E s := by
  have hT : s.TypeIs (.ref d) "dict" := ⟨o, ho, hx.1⟩
  refine wpAny_pyIter_slot hT F.slot_dict_iter (wpAny_call_entry F.slot_dict_iter hT F.entry_dict_iter ?_ (F.args_dict_iter_1 _))
  unfold Builtin.«dict.__iter__» Builtin.Dict.dictSlotNone
  refine wpAny_bind (wpAny_bind (wpAny_notOrdered_dict hT (wpAny_pure ?_)))
  show wpAny _ _ (Builtin.Dict.showsAll d >>= _) _ _ s
  unfold Builtin.Dict.showsAll
  rw [if_neg (by rw [hd]; exact Bool.false_ne_true)]
  refine wpAny_bind (wpAny_pure (wpAny_bind (wpAny_dictEntries ho hdat (wpAny_bind (wpAny_dictEpoch ho hdat ?_)))))
  exact wpAny_bind (wpAny_newObj_type (wpAny_pure ⟨_, rfl, "dict_keyiterator", _, ⟨_, Heap.get?_push_size _ rfl, rfl⟩, F.slot_dict_keyiterator_next.lookup, by simpa [rawInt] using hQ⟩))
theorem next_item {it d : Addr} {i ep : Nat} {od : Obj} {es : Array DictEntry} {Q : Option Value → Shared → Prop} (hit : s.heap.IsKeyIter it d i es.size ep) (hod : s.heap.get? d = some od) (hdd : od.data = .dict es ep) (hi : i < es.size)
    (hQ : ∀ h', h'.IsKeyIter it d (i + 1) es.size ep → Heap.SameBut it s.heap h' → Q (some es[i].key) { s with heap := h' }) : wpAny (model prog w) A (pyNext (.ref it)) Q E s := by
  obtain ⟨o, ho, hc, hd⟩ := id hit
  have hit' : (s.heap.update it (Obj.mapFields (·.setIfInBounds 1 (rawInt ((i : Int) + 1))))).IsKeyIter it d (i + 1) es.size ep :=
    ⟨_, Heap.get?_update_self _ ho (Obj.isFreed_of_fields (Obj.data_mapFields hd _)), (Obj.cls_mapFields ..).trans hc, by rw [Obj.data_mapFields hd]; simp [rawInt]⟩
  have fin := hQ _ hit' (Heap.SameBut.update ..)
  unfold pyNext
  refine wpAny_bind (wpAny_attempt (wpAny_callSpecial?_slot (name := Str.ofString "__next__") hit.typeIs F.slot_dict_keyiterator_next
    (wpAny_call_entry F.slot_dict_keyiterator_next hit.typeIs F.entry_dict_keyiterator_next ?_ (F.args_dict_keyiterator_next_1 _))))
  refine wpAny_bind (wpAny_pure (wpAny_bind (wpAny_bind ?_)))
  first | refine wpAny_bind (wpAny_typeNameOfWhole_keyiter hit.typeIs (wpAny_pure ?_)) | refine wpAny_bind (wpAny_typeNameOf_keyiter hit.typeIs (wpAny_pure ?_))
  refine wpAny_bind (wpAny_fieldsOf ho hd ?_)
  simp only [show Builtin.Dict_items.ownsTuple "dict_keyiterator" = false by decide, Bool.false_eq_true, if_false]
  show wpAny _ _ (if (Value.ref d == Value.none) = true then _ else _) _ _ s
  rw [if_neg (show ¬ ((Value.ref d == Value.none) = true) from Bool.false_ne_true)]
  refine wpAny_bind (wpAny_pure (wpAny_bind (wpAny_dictEntries hod hdd ?_)))
  rw [if_neg (by simp)]
  refine wpAny_bind (wpAny_pure (wpAny_bind (wpAny_dictEpoch hod hdd ?_)))
  rw [if_neg (by simp)]
  refine wpAny_pure ?_
  simp only [show ¬ ((i : Int) < 0) from by omega, if_false, Int.toNat_natCast, Array.getElem?_eq_getElem hi]
  refine wpAny_bind ?_
  first | refine wpAny_bind (wpAny_typeNameOfWhole_keyiter hit.typeIs (wpAny_pure ?_)) | refine wpAny_bind (wpAny_typeNameOf_keyiter hit.typeIs (wpAny_pure ?_))
  refine wpAny_bind (wpAny_isOneOf_keyiter hit.typeIs ?_)
  show wpAny _ _ (setField (.ref it) 1 (rawInt ((i : Int) + 1)) >>= _) _ _ s
  refine wpAny_bind (wpAny_setField ho hd (by simp) (wpAny_bind (wpAny_holding ?_)))
  refine wpAny_bind (wpAny_isOneOf_keyiter (s := { s with heap := s.heap.update it (Obj.mapFields (·.setIfInBounds 1 (rawInt ((i : Int) + 1)))) }) hit'.typeIs ?_)
  show wpAny _ _ (pure es[i].key) _ _ _
  exact wpAny_pure (wpAny_pure ⟨_, rfl, wpAny_pure fin⟩)
theorem next_end {it d : Addr} {i ep : Nat} {od : Obj} {es : Array DictEntry} {Q : Option Value → Shared → Prop} (hh : A.handled = none) (hit : s.heap.IsKeyIter it d i es.size ep) (hod : s.heap.get? d = some od) (hdd : od.data = .dict es ep) (hi : es.size ≤ i)
    (hQ : ∀ h', Heap.ExtBut it s.heap h' → Q none { s with heap := h' }) : wpAny (model prog w) A (pyNext (.ref it)) Q E s := by
  obtain ⟨o, ho, hc, hd⟩ := id hit
  unfold pyNext
  refine wpAny_bind (wpAny_attempt (wpAny_callSpecial?_slot (name := Str.ofString "__next__") hit.typeIs F.slot_dict_keyiterator_next
    (wpAny_call_entry F.slot_dict_keyiterator_next hit.typeIs F.entry_dict_keyiterator_next ?_ (F.args_dict_keyiterator_next_1 _))))
  refine wpAny_bind (wpAny_pure (wpAny_bind (wpAny_bind ?_)))
  first | refine wpAny_bind (wpAny_typeNameOfWhole_keyiter hit.typeIs (wpAny_pure ?_)) | refine wpAny_bind (wpAny_typeNameOf_keyiter hit.typeIs (wpAny_pure ?_))
  refine wpAny_bind (wpAny_fieldsOf ho hd ?_)
  simp only [show Builtin.Dict_items.ownsTuple "dict_keyiterator" = false by decide, Bool.false_eq_true, if_false]
  show wpAny _ _ (if (Value.ref d == Value.none) = true then _ else _) _ _ s
  rw [if_neg (show ¬ ((Value.ref d == Value.none) = true) from Bool.false_ne_true)]
  refine wpAny_bind (wpAny_pure (wpAny_bind (wpAny_dictEntries hod hdd ?_)))
  rw [if_neg (by simp)]
  refine wpAny_bind (wpAny_pure (wpAny_bind (wpAny_dictEpoch hod hdd ?_)))
  rw [if_neg (by simp)]
  refine wpAny_pure ?_
  simp only [show ¬ ((i : Int) < 0) from by omega, if_false, Int.toNat_natCast, Array.getElem?_eq_none hi]
  refine wpAny_bind ?_
  first | refine wpAny_bind (wpAny_typeNameOfWhole_keyiter hit.typeIs (wpAny_pure ?_)) | refine wpAny_bind (wpAny_typeNameOf_keyiter hit.typeIs (wpAny_pure ?_))
  show wpAny _ _ (setField (.ref it) 0 .none >>= _) _ _ s
  refine wpAny_bind (wpAny_setField ho hd (by simp) ?_)
  show wpAny _ _ (newExc (.type "StopIteration") [] >>= _) _ _ _
  refine wpAny_bind ?_
  simp only [newExc, newTuple]
  refine wpAny_bind (wpAny_newObj_type ?_ (by size_fits))
  refine wpAny_bind (m := firstArgMember _ _) (wpAny_of_eq (a := Value.none) (by first | rfl | (simp only [firstArgMember]; rfl)) ?_)
  refine wpAny_newObj_type ?_ (by size_fits)
  simp only [raiseNew]
  refine wpAny_bind (wpAny_handled ?_)
  rw [show A.in1.handled = none from hh]
  refine wpAny_bind (wpAny_pure (wpAny_throw ?_))
  refine wpAny_bind (wpAny_isInstance (T := "StopIteration") (b := true) ⟨_, Heap.get?_push_size _ rfl, rfl⟩ isSubtype_stop ?_)
  exact wpAny_pure (hQ _ (((Heap.SameBut.update ..).extBut.push _).push _))
end
theorem pd_at {α β : Type} {F : α → β → Prop} {l : List α} {m : List β} (h : Paired F l m) : l.length = m.length ∧ ∀ {i : Nat} {a : α}, l[i]? = some a → ∃ b, m[i]? = some b ∧ F a b := by
  induction h with
  | nil => exact ⟨rfl, fun h => by cases h⟩
  | cons f r ih =>
    refine ⟨by rw [List.length_cons, List.length_cons, ih.1], fun {i a} h => ?_⟩
    cases i with
    | zero => cases h; exact ⟨_, rfl, f⟩
    | succ i => exact ih.2 h
def Itd (a : Addr) (o : Obj) : It :=
  ⟨fun i H => ∃ kvs, H a = some (.frz o (.dT kvs)) ∧ i < kvs.length,
   fun i H x H' => H' = H ∧ ∃ b, x = .ref b ∧ ∀ kvs, H a = some (.frz o (.dT kvs)) → ∃ k v, kvs[i]? = some (k, v) ∧ H b = some (.tup (k.map kV)),
   fun i H => ∃ kvs, H a = some (.frz o (.dT kvs)) ∧ kvs.length ≤ i⟩
theorem dict_obj {P : Program} {w : World} {H : Hp} {h : Heap} {a : Addr} {o : Obj} {kvs : List (List Key × V)} (x : ObjOk P w H h a (.frz o (.dT kvs))) :
    (a == sysModules) = false ∧ h.get? a = some o ∧ o.ExactDict ∧ ∃ es ep, o.data = .dict es ep ∧ es.size = kvs.length ∧ ∀ (i : Nat) (hi : i < es.size), ∃ k v b, kvs[i]? = some (k, v) ∧ es[i].key = .ref b ∧ H b = some (.tup (k.map kV)) := by
  obtain ⟨ho, z, y, xs, r, o', es, ep, h1, h2, h3, h4, h5⟩ := x
  rw [ho] at h1
  cases h1
  have l1 := (pd_at r).1
  have sz : es.size = kvs.length := by rw [l1, ← Array.length_toList, h4, List.length_map]
  refine ⟨y, ho, h2, es, ep, h3, sz, fun i hi => ?_⟩
  have hk : kvs[i]? = some kvs[i] := List.getElem?_eq_getElem (by omega)
  obtain ⟨q, e1, e2, e3, e4⟩ := (pd_at r).2 hk
  refine ⟨_, _, q.2.1, hk, ?_, e3⟩
  have : es.toList[i]? = some (entryOfKey (tupleKind (mixKind P w)) q) := by rw [h4, List.getElem?_map, e1]; rfl
  have h6 : es[i] = entryOfKey (tupleKind (mixKind P w)) q := by
    have h7 : es.toList[i]? = some es[i] := by simp [hi]
    rw [h7] at this
    exact Option.some.inj this
  rw [h6]
  rfl
theorem turn_dict {P : Program} {w : World} {K : PySem.W.Frag} {tg : Expr} (a it : Addr) (o : Obj) : Turn P w K tg (Itd a o) [it] it (fun i h => ∃ es ep, o.data = .dict es ep ∧ h.IsKeyIter it a i es.size ep) where
  mem := by simp
  obj := fun i h st b hb => by
    have e : b = it := by simpa using hb
    subst e
    obtain ⟨_, _, _, o, e, c, d⟩ := st
    exact ⟨o, e, fun v z => by rw [d] at z; cases z⟩
  keep := fun i h h' st k => let ⟨es, ep, d, st⟩ := st; ⟨es, ep, d, st.at fun o e => k it (by simp) o e⟩
  item := by
    intro X hP hw hK hc i pins s σ H E I hf st hg
    subst hP hw hK
    obtain ⟨kvs, e, il⟩ := hg
    obtain ⟨es', ep', d', st⟩ := st
    obtain ⟨_, ho, hx, es, ep, d, sz, at_⟩ := dict_obj (I.hok a _ e)
    rw [d] at d'
    cases d'
    obtain ⟨k, v, b, e1, e2, e3⟩ := at_ i (by omega)
    obtain ⟨f0, f1, f2, f3, f4, f5⟩ := hf it (by simp)
    refine next_item st ho d (by omega) fun h' st' sb => ?_
    have I1 : Inv X pins σ H { s with heap := h' } := I.turned (t' := s.toks) (fun b o hb e => (sb.2 b hb).trans e) f0 f1 f3 f4 f5
    obtain ⟨oi, ei, ci, di⟩ := id st'
    refine ⟨_, rfl, go_of (s := { s with heap := h' }) ei ci di (by decide) ⟨.ref b, H, I1, e2, ⟨rfl, b, rfl, fun kvs' e' => ?_⟩, ⟨_, _, d, st'⟩, fun b hb => (hf b hb).1⟩⟩
    rw [e] at e'
    cases e'
    exact ⟨k, v, e1, e3⟩
  done := by
    intro X hP hw hK hc i pins s σ H E I hf st hg
    subst hP hw hK
    obtain ⟨kvs, e, il⟩ := hg
    obtain ⟨es', ep', d', st⟩ := st
    obtain ⟨_, ho, hx, es, ep, d, sz, at_⟩ := dict_obj (I.hok a _ e)
    rw [d] at d'
    cases d'
    obtain ⟨f0, f1, f2, f3, f4, f5⟩ := hf it (by simp)
    exact next_end (I.ok.hd hc) st ho d (by omega) fun h' eb => ⟨rfl, I.turned (t' := s.toks) (fun b o hb e => eb b o hb e) f0 f1 f3 f4 f5⟩
  self := fun _ _ _ _ _ ⟨_, _, _, st⟩ h => wpAny_pyIter_keyiter st h
section
variable {X : Cx} {tg : Expr}
theorem Inv.freeze {pins : List (Addr × Obj)} {σ : St} {H : Hp} {s : Shared} {a : Addr} {kvs : List (List Key × V)} (I : Inv X pins σ H s) (e : H a = some (.dT kvs)) : ∃ o, Inv X pins σ (upd H a (.frz o (.dT kvs))) s := by
  have x := I.hok a _ e
  obtain ⟨z, y, xs, r, o, es, ep, h1, h2, h3, h4, h5⟩ := id x
  have mu : Mut (H a) := by rw [e]; trivial
  have ta : ∀ b ys, H b = some (.tup ys) → upd H a (.frz o (.dT kvs)) b = some (.tup ys) := fun b ys q => by rw [upd_ne (fun w => by rw [w, e] at q; cases q)]; exact q
  have hk := I.hok.write (x := a) (e := a) (o' := .frz o (.dT kvs)) (h' := s.heap) mu (.inl rfl) (fun _ _ _ q => q) ⟨o, h1⟩ ⟨h1, z, y, xs, Paired.mapP r fun p q z => ⟨z.1, ta _ _ z.2.1, z.2.2⟩, o, es, ep, h1, h2, h3, h4, h5⟩
  exact ⟨o, I.un (t' := s.toks) (Un.write (x := a) (e := a) mu (.inl rfl) (fun _ _ _ q => q) ⟨o, h1⟩) hk⟩
def iDict (te : TE) : TI := fun σ H R => te σ H fun v H1 => ∃ a kvs, v = .ref a ∧ ((H1 a = some (.dT kvs) ∧ ∀ o, R (Itd a o) (upd H1 a (.frz o (.dT kvs)))) ∨ ∃ o, H1 a = some (.frz o (.dT kvs)) ∧ R (Itd a o) H1)
theorem pi_dict {l : Expr} {tl : TE} (hl : PE X l tl) : PI X tg l (iDict tl) := by
  intro pins s σ H R I h
  refine thn (hl pins s σ H _ I h) fun v s1 ⟨x, H1, I1, r1, q1⟩ => ?_
  obtain ⟨a, kvs, e, q⟩ := q1
  subst e
  cases r1
  have fin : ∀ (H2 : Hp) (o : Obj), Inv X pins σ H2 s1 → H2 a = some (.frz o (.dT kvs)) → R (Itd a o) H2 → wpAny (model X.prog X.w) X.A (pyIter (.ref a)) (PIE X pins σ tg R) X.xe s1 := fun H2 o I2 e2 q2 => by
    obtain ⟨y, ho, hx, es, ep, d, sz, _⟩ := dict_obj (I2.hok a _ e2)
    refine iter_dict y ho hx d ?_
    refine ⟨s1.heap.objs.size, [s1.heap.objs.size], _, _, H2, rfl, I2.kept (t' := s1.toks) fun b o e => Heap.get?_push_of_some _ e, turn_dict a _ o, ⟨es, ep, d, _, Heap.get?_push_size _ rfl, rfl, rfl⟩, fun b hb => ?_, q2⟩
    have e : b = s1.heap.objs.size := by simpa using hb
    subst e
    exact I2.fpOk (Nat.le_refl _) (I2.hok.fresh (Nat.le_refl _))
  rcases q with ⟨e1, q⟩ | ⟨o, e1, q⟩
  · obtain ⟨o, I2⟩ := I1.freeze e1
    exact fin _ o I2 upd_same (q o)
  · exact fin _ o I1 e1 q
theorem for_dict {a : Addr} {o : Obj} {kvs : List (List Key × V)} {g : TG} {tb : TS} {D : Ends} {σ : St} {H : Hp} (Pv : Nat → St → Hp → Prop) (h0 : Pv 0 σ H) (hl : ∀ i σ H, i ≤ kvs.length → Pv i σ H → H a = some (.frz o (.dT kvs)))
    (hs : ∀ i k v b σ H, kvs[i]? = some (k, v) → Pv i σ H → H b = some (.tup (k.map kV)) → g (.ref b) σ H fun σ2 H2 => tb { D with nx := Pv (i + 1), ct := Pv (i + 1), bk := D.nx } σ2 H2) (hd : ∀ σ H, Pv kvs.length σ H → D.nx σ H) :
    ∃ W : Nat → Nat → St → Hp → Prop, (∃ m, W 0 m σ H) ∧ ∀ i m σ H, W i m σ H →
      ((Itd a o).stop i H ∧ D.nx σ H) ∨ ((Itd a o).go i H ∧ ∃ N : St → Hp → Prop, (∀ σ' H', N σ' H' → ∃ m', m' < m ∧ W (i + 1) m' σ' H') ∧ ∀ x H', (Itd a o).yld i H x H' → g x σ H' fun σ2 H2 => tb { D with nx := N, ct := N, bk := D.nx } σ2 H2) := by
  refine ⟨fun i m σ H => m = kvs.length - i ∧ i ≤ kvs.length ∧ Pv i σ H, ⟨kvs.length, by simp, Nat.zero_le _, h0⟩, ?_⟩
  rintro i m σ H ⟨rfl, hi, p⟩
  have e := hl i σ H hi p
  by_cases hlt : i < kvs.length
  · refine .inr ⟨⟨kvs, e, hlt⟩, Pv (i + 1), fun σ' H' q => ⟨kvs.length - (i + 1), by omega, rfl, by omega, q⟩, ?_⟩
    rintro x H' ⟨rfl, b, rfl, f⟩
    obtain ⟨k, v, e1, e2⟩ := f kvs e
    exact hs i k v b σ H' e1 p e2
  · have z : i = kvs.length := by omega
    subst z
    exact .inl ⟨⟨kvs, e, Nat.le_refl _⟩, hd σ H p⟩
end
end L2
namespace L2
open PySem PySem.Spec
section
variable {X : Cx}
end
end L2
namespace L2
open PySem PySem.Spec
theorem put_len {κ : Type} [DecidableEq κ] (kvs : List (κ × V)) (k : κ) (v : V) : (putK kvs k v).length ≤ kvs.length + 1 := by
  unfold putK
  split
  · rw [List.length_map]; omega
  · rw [List.length_append]; exact Nat.le_refl _
theorem Same.but {H H1 H2 : Hp} {td : Addr} (s : Same H H1) (h0 : H td = none) (h : ∀ b, b ≠ td → H2 b = H1 b) : Same H H2 := fun b o e => by
  rw [h b (fun w => by rw [w, h0] at e; cases e)]
  exact s b o e
theorem Tups.but {H1 H2 : Hp} {td : Addr} {rs : List Addr} {ks : List (List Key)} (t : Tups H1 rs ks) (hd : ∀ xs, H1 td ≠ some (.tup xs)) (h : ∀ b, b ≠ td → H2 b = H1 b) : Tups H2 rs ks := ⟨t.1, fun i r k a b => by
  have e := t.2 i r k a b
  rw [h r (fun w => by rw [w] at e; exact hd _ e)]
  exact e⟩
end L2
namespace L2
open PySem PySem.Spec
end L2
set_option Elab.async false
set_option linter.all false
set_option maxRecDepth 100000
set_option maxHeartbeats 1000000
namespace L2
open PySem PySem.Spec PyProof.Rows
def bigB (h : Heap) (H : Hp) (st : List Env) : Heap := PySem.W.hideAll h (trk h H ++ frs st)
theorem bigB_get {h : Heap} {H : Hp} {st : List Env} {b : Addr} {o : Obj} (e : h.get? b = some o) (n : H b = none) (hf : b ∉ frs st) : (bigB h H st).get? b = some o :=
  PySem.W.hideAll_get _ e fun hm => by
    rcases List.mem_append.mp hm with hm | hm
    · have q : (H b).isSome = true := (List.mem_filter.mp hm).2
      rw [n] at q; simp at q
    · exact hf hm
theorem of_bigB {h : Heap} {H : Hp} {st : List Env} {b : Addr} {o : Obj} (e : (bigB h H st).get? b = some o) : h.get? b = some o ∧ H b = none := by
  have e' : h.get? b = some o := PySem.W.of_hideAll _ e
  refine ⟨e', ?_⟩
  cases q : H b with
  | none => rfl
  | some x =>
    have hm : b ∈ trk h H := List.mem_filter.mpr ⟨List.mem_range.mpr (Heap.lt_size e'), by simp [q]⟩
    have z : (bigB h H st).get? b = none := PySem.W.hideAll_none _ (List.mem_append_left _ hm)
    rw [z] at e; cases e
theorem Mod.keeps {K : PySem.W.Frag} {mg : Str → Option Value} {b1 b2 : Heap} (m : Mod K mg b1) (k : ∀ b o, b1.get? b = some o → b2.get? b = some o) : Mod K mg b2 :=
  ⟨m.kin.keeps k, m.glob.keeps k, let ⟨mb, h1, h2⟩ := m.blt; ⟨mb, h1.keeps k, h2⟩, m.nolimit.keeps k⟩
theorem Env0.stays {P : Program} {w : World} {K : PySem.W.Frag} {mg : Str → Option Value} {base : Heap} {A : Around} {outer : List Env} {s : Shared} {H : Hp} (e : Env0 P w K mg base A outer s H) {b : Addr} {o : Obj} (q : base.get? b = some o) : (bigB s.heap H outer).get? b = some o :=
  bigB_get (e.bs b o q).1 (e.bs b o q).2 fun hm => by
    have := (e.funs.mem hm).1
    rw [q] at this; cases this
theorem Env0.big {P : Program} {w : World} {K : PySem.W.Frag} {mg : Str → Option Value} {base : Heap} {A : Around} {outer : List Env} {s : Shared} {H : Hp} (e : Env0 P w K mg base A outer s H) : Env0 P w K mg (bigB s.heap H outer) A outer s H :=
  ⟨e.frames, e.mod.keeps fun _ _ q => e.stays q, fun _ _ q => of_bigB q, Nat.le_of_eq (PySem.W.hideAll_size _ _), PySem.W.funFrames_hide e.funs fun env he a ha => List.mem_append_right _ (List.mem_filterMap.mpr ⟨env, he, ha⟩), e.frf, e.hok, e.bare⟩
def CodeE (c : Addr) (q : Str) : HO := .ext fun h => h.CodeRec (.ref c) q
theorem CodeE.ok {P : Program} {w : World} {H : Hp} {h : Heap} {c : Addr} {q : Str} (r : h.CodeRec (.ref c) q) : ObjOk P w H h c (CodeE c q) := by
  refine ⟨r, ?_, fun h1 h2 r1 k => ?_⟩
  · obtain ⟨_, o, _, _, e, ho, _⟩ := r
    cases e
    exact ⟨o, ho⟩
  · obtain ⟨_, o, vs, t, e, ho, r⟩ := r1
    cases e
    exact ⟨c, o, vs, t, rfl, k o ho, r⟩
structure TabOk (H : Hp) (P : Addr) (q : Str) : Prop where
  ex : ∃ ps, H P = some (.tbl ps) ∧ TriplesOk ps.toList ∧ ∀ pos cv, codeAmong pos ps.toList = some cv → ∃ c, cv = .ref c ∧ c ≠ P ∧ H c = some (CodeE c q)
theorem TabOk.same {H H' : Hp} {P : Addr} {q : Str} (t : TabOk H P q) (e : Same H H') : TabOk H' P q := by
  obtain ⟨ps, h1, h2, h3⟩ := t
  exact ⟨ps, e _ _ h1, h2, fun pos cv z => let ⟨c, e1, e2, e3⟩ := h3 pos cv z; ⟨c, e1, e2, e _ _ e3⟩⟩
theorem among_snoc (pos p2 : Pos) (c v : Value) : ∀ (l : List Value), TriplesOk l → codeAmong pos (l ++ [rawInt p2.line, rawInt p2.col, c]) = some v → codeAmong pos l = some v ∨ v = c
  | [], _, h => by
    rw [List.nil_append] at h
    unfold rawInt at h
    simp only [codeAmong] at h
    split at h
    · exact .inr (Option.some.inj h).symm
    · cases h
  | .int a _ :: .int b _ :: x :: r, ok, h => by
    simp only [List.cons_append, codeAmong] at h ⊢
    split at h
    · rename_i z
      rw [if_pos z]
      exact .inl h
    · rename_i z
      rw [if_neg z]
      exact among_snoc pos p2 c v r ok h
def SameP (P : Addr) (H H' : Hp) : Prop := ∀ b o, b ≠ P → H b = some o → H' b = some o
theorem SameP.refl (P : Addr) (H : Hp) : SameP P H H := fun _ _ _ e => e
theorem SameP.trans {P : Addr} {H H1 H2 : Hp} (a : SameP P H H1) (b : SameP P H1 H2) : SameP P H H2 := fun c o n e => b c o n (a c o n e)
theorem SameP.of {P : Addr} {H H' : Hp} (e : Same H H') : SameP P H H' := fun b o _ q => e b o q
end L2
set_option Elab.async false
set_option linter.all false
set_option maxRecDepth 100000
set_option maxHeartbeats 1000000
namespace L2
open PySem PySem.Spec PyProof.Rows
structure BMain (mg : Str → Option Value) (base : Heap) : Prop where
  ex : ∃ bm ob, mg "__builtins__" = some (.ref bm) ∧ bm ≠ builtinsNs ∧ base.get? bm = some ob ∧ ob.cls = .type "module" ∧ ob.dict = some builtinsNs ∧ ob.data = .plain
theorem BMain.keeps {mg : Str → Option Value} {b1 b2 : Heap} (m : BMain mg b1) (k : ∀ b o, b1.get? b = some o → b2.get? b = some o) : BMain mg b2 :=
  let ⟨bm, ob, e1, e2, e3, r⟩ := m.ex; ⟨bm, ob, e1, e2, k _ _ e3, r⟩
abbrev lamObj (qual : Str) (params : Arguments) (body : Expr) (scope : Scope) (cl : List (Str × Addr)) (pm : Value) (c : Addr) (ctv : Value) : Obj := PySem.W.kla_obj "<lambda>" qual params body scope cl pm c ctv
section
variable {X : Cx} {pins : List (Addr × Obj)} {σ : St} {H : Hp} {s : Shared}
theorem Inv.notStack (I : Inv X pins σ H s) {b : Addr} (h : s.heap.objs.size ≤ b) : b ∉ frs X.stack := fun hm => by
  obtain ⟨_, o, ho, _⟩ := I.stack.mem hm
  exact absurd (Nat.lt_of_lt_of_le (Heap.lt_size ho) h) (Nat.lt_irrefl _)
theorem lam_make {params : Arguments} {body : Expr} {scope : Scope} {pos : Pos} {c P : Addr} {cl : List (Str × Addr)} {Q : Value → Shared → Prop} (I : Inv X pins σ H s) (hdef : defaultsOf params X.env = ([], [])) (hcl : closureFor scope X.env = pure cl) (hcode : X.env.code = .ref c)
    (C : PySem.W.CodeHd X.base c P) (B : BMain X.mg X.base) (T : TabOk H P (X.env.qual ++ "<lambda>"))
    (h : ∀ (f c' : Addr) (ctv : Value) (H1 : Hp) (s1 : Shared), Inv X pins σ H1 s1 → s1.heap.get? f = some (lamObj (X.env.qual ++ "<lambda>") params body scope cl ((X.mg "__name__").getD .none) c' ctv) → H1 f = none → f ∉ frs X.stack →
      H1 c' = some (CodeE c' (X.env.qual ++ "<lambda>")) → TabOk H1 P (X.env.qual ++ "<lambda>") → SameP P H H1 → Q (.ref f) s1) : wpAny (model X.prog X.w) X.A (eval (.Lambda params body scope pos) X.env) Q X.xe s := by
  refine PySem.W.kla_eval hdef ?_
  obtain ⟨ps, hT, tr, hcs⟩ := T.ex
  have hP : s.heap.get? P = some (PySem.W.tabObj ps) := I.hok P _ hT
  have hg := I.ok.mod.glob.keeps I.bk
  have nG : mainGlobals ≠ P := fun z => by
    obtain ⟨o, es, ep, e, _⟩ := I.ok.mod.glob
    have := (I.bs _ _ e).2
    rw [z, hT] at this; cases this
  obtain ⟨bm, ob, b1, b2, b3, b4, b5, b6⟩ := B.ex
  have nP : bm ≠ P := fun z => by
    have := (I.bs _ _ b3).2
    rw [z, hT] at this; cases this
  have nM : bm ≠ mainGlobals := fun z => by
    obtain ⟨o, es, ep, e, hd, _⟩ := I.ok.mod.glob
    rw [z, e] at b3; cases b3; rw [hd] at b6; cases b6
  have hB : s.heap.BuiltinsAt X.mg P := ⟨bm, ob, b1, b2, nM, nP, I.bk _ _ b3, b4, b5, b6⟩
  cases hf : codeAmong pos ps.toList with
  | some cv =>
    obtain ⟨c', rfl, ne, hc'⟩ := hcs pos cv hf
    refine PySem.W.kla_makeFunctionHit (mg := X.mg) hcl I.ok.glob hg hcode (C.keeps I.bk) hP tr hf hB fun ctv h' tk hk hsz => ?_
    have k2 : ∀ b o, s.heap.get? b = some o → (h'.push (lamObj (X.env.qual ++ "<lambda>") params body scope cl ((X.mg "__name__").getD .none) c' ctv)).get? b = some o := fun b o e => Heap.get?_push_of_some _ (hk b o e)
    have hfr : H h'.objs.size = none := I.hok.fresh hsz
    exact h _ c' ctv H _ (I.kept k2) (Heap.get?_push_size _ rfl) hfr (I.notStack hsz) hc' T (SameP.refl P H)
  | none =>
    refine PySem.W.kla_makeFunction (mg := X.mg) hcl I.ok.glob hg hcode (C.keeps I.bk) hP tr hf nG hB fun c' ctv h' tk hx hge hlt hrec htb => ?_
    generalize hO : PySem.W.kla_obj "<lambda>" (X.env.qual ++ "<lambda>") params body scope cl ((X.mg "__name__").getD .none) c' ctv = O
    have k2 : ∀ b o, b ≠ P → s.heap.get? b = some o → (h'.push O).get? b = some o := fun b o n e => Heap.get?_push_of_some _ (hx b o n e)
    have hc0 : H c' = none := I.hok.fresh hge
    have nc : c' ≠ P := fun z => by rw [z, hT] at hc0; cases hc0
    have hsz : s.heap.objs.size ≤ h'.objs.size := Nat.le_of_lt (Nat.lt_of_le_of_lt hge hlt)
    have hf0 : H h'.objs.size = none := I.hok.fresh hsz
    have old : ∀ b u, b ≠ P → H b = some u → upd (upd H P (.tbl (ps ++ #[rawInt pos.line, rawInt pos.col, .ref c']))) c' (CodeE c' (X.env.qual ++ "<lambda>")) b = some u := fun b u n e => by
      rw [upd_ne (ne_of_none e hc0), upd_ne n]; exact e
    have eP : upd (upd H P (.tbl (ps ++ #[rawInt pos.line, rawInt pos.col, .ref c']))) c' (CodeE c' (X.env.qual ++ "<lambda>")) P = some (.tbl (ps ++ #[rawInt pos.line, rawInt pos.col, .ref c'])) := by
      rw [upd_ne (Ne.symm nc), upd_same]
    have J : Inv X pins σ (upd (upd H P (.tbl (ps ++ #[rawInt pos.line, rawInt pos.col, .ref c']))) c' (CodeE c' (X.env.qual ++ "<lambda>"))) { s with heap := h'.push O, toks := tk } := by
      refine I.step (g' := s.gens) (d' := s.drawn) (ch := []) (fun _ z => nomatch z) (fun b o _ _ _ e n => k2 b o (fun z => by rw [z, hT] at n; cases n) e) (fun b o _ _ _ e n => ⟨o.slots, k2 b o (fun z => by rw [z, hT] at n; cases n) e⟩) (fun b o _ e n => ?_) (fun b o _ e => ?_)
        (fun b xs e => old b _ (fun z => by rw [z, hT] at e; cases e) e) (fun b o u e => old b _ (fun z => by rw [z, hT] at e; cases e) e) (fun b qs e => ?_) (fun m hm => ?_) (fun b u e => ?_) I.bare
      · rw [upd_ne (fun z => absurd (Heap.lt_size e) (by rw [z]; exact Nat.not_lt.mpr hge)), upd_ne (fun z => by rw [z, hT] at n; cases n)]
        exact n
      · by_cases z : b = P
        · subst z; exact ⟨_, Heap.get?_push_of_some _ htb⟩
        · exact ⟨o, k2 b o z e⟩
      · by_cases z : b = P
        · subst z
          rw [hT] at e; cases e
          exact ⟨_, eP⟩
        · exact ⟨#[], by rw [old b _ z e]; simp⟩
      · obtain ⟨o, es, ep, e, r⟩ := hm
        exact ⟨o, es, ep, k2 _ o (fun z => by have n := I.free; rw [z, hT] at n; cases n) e, r⟩
      · by_cases z1 : b = c'
        · subst z1
          rw [upd_same] at e; cases e
          refine CodeE.ok ?_
          obtain ⟨c2, o, vs, t, e1, e2, r⟩ := hrec
          exact ⟨c2, o, vs, t, e1, Heap.get?_push_of_some _ e2, r⟩
        · rw [upd_ne z1] at e
          by_cases z2 : b = P
          · subst z2
            rw [upd_same] at e; cases e
            exact Heap.get?_push_of_some _ htb
          · rw [upd_ne z2] at e
            refine (I.hok b u e).stay (fun d v hd q => k2 d v ?_ q) (fun d q => old d _ (fun z => by rw [z, hT] at q; cases q) q) fun d xs q => old d _ (fun z => by rw [z, hT] at q; cases q) q
            rcases hd with z | z
            · rw [z]; exact z2
            · intro z3; rw [z3, hT] at z; cases z
    refine h _ c' ctv _ _ J (by rw [← hO]; exact Heap.get?_push_size _ rfl) ?_ (I.notStack hsz) upd_same ⟨_, eP, ?_, fun p2 cv z => ?_⟩ (fun b o n e => old b o n e)
    · rw [upd_ne (Nat.ne_of_gt hlt), upd_ne (fun z => by rw [z, hT] at hf0; cases hf0)]
      exact hf0
    · have := TriplesOk_snoc pos.line pos.col (.ref c') ps.toList tr
      simpa using this
    · have z' : codeAmong p2 (ps.toList ++ [rawInt pos.line, rawInt pos.col, .ref c']) = some cv := by simpa using z
      rcases among_snoc p2 pos (.ref c') cv ps.toList tr z' with y | y
      · obtain ⟨d, e1, e2, e3⟩ := hcs p2 cv y
        exact ⟨d, e1, e2, old d _ e2 e3⟩
      · exact ⟨c', y, nc, upd_same⟩
end
end L2
set_option Elab.async false
set_option linter.all false
set_option maxRecDepth 100000
set_option maxHeartbeats 1000000
namespace L2
open PySem PySem.Spec PyProof.Rows
def cxLam (CX : CXT) (P : Program) (w : World) (K : PySem.W.Frag) (mg : Str → Option Value) (base : Heap) (N : List Str) (qual : Str) (scope : Scope) (f : Addr) (cd : Value) (cl : List (Str × Addr)) (A : Around) (outer : List Env) (s : Shared) (H : Hp) (E : XK) : Cx where
  prog := P
  w := w
  K := K
  mg := mg
  base := base
  A := A.deeper (PySem.W.envX qual scope s.heap.objs.size f cd cl)
  N := N
  s₀ := s
  H₀ := H
  env := PySem.W.envX qual scope s.heap.objs.size f cd cl
  outer := outer
  stack := PySem.W.envX qual scope s.heap.objs.size f cd cl :: outer
  ex := []
  calm := true
  fn := fun _ => false
  pn := []
  xe := fun e s' => wpAny (model P w) (A.deeper (PySem.W.envX qual scope s.heap.objs.size f cd cl)) (leaving (PySem.W.envX qual scope s.heap.objs.size f cd cl) e) (fun _ s'' => CX outer H s E e s'') (fun e' s'' => CX outer H s E e' s'') s'
structure LamScope (sc : Scope) : Prop where
  kind : sc.kind = .function
  co : sc.isCoroutine = false
  gen : sc.isGenerator = false
  nocell : ∀ x ∈ sc.names, x.2 ≠ .cell
structure Caps (base : Heap) (N : List Str) (scope : Scope) (cl : List (Str × Addr)) (σ : St) : Prop where
  inj : ∀ x y c, cl.lookup x = some c → cl.lookup y = some c → x = y
  has : ∀ x, scope.names.lookup x = some .free → ∃ c, cl.lookup x = some c
  cell : ∀ x c, cl.lookup x = some c → ∃ v, base.IsCell c v
  val : ∀ (i : Nat) (x : Str) (v : V), N[i]? = some x → σ[i]? = some (some v) → ∃ c u, scope.names.lookup x = some .free ∧ cl.lookup x = some c ∧ base.IsCell c (some u) ∧ RelV v u
  len : σ.length = N.length
section
variable {CX : CXT} {P : Program} {w : World} {K : PySem.W.Frag} {mg : Str → Option Value} {base : Heap} {k : Nat} {f c : Addr} {qual : Str} {params : Arguments} {body : Expr} {scope : Scope} {cl : List (Str × Addr)} {pm ctv : Value} {N : List Str} {σ : St} {sp : Sp}
theorem lam_fn (ho : base.get? f = some (lamObj qual params body scope cl pm c ctv)) (S : LamScope scope) (Cp : Caps base N scope cl σ) (len : ∀ vs H Q E, sp vs H Q E → vs = []) (hcd : ∀ H Q E, sp [] H Q E → H c = some (CodeE c qual))
    (hbody : ∀ (A : Around) (outer : List Env) (s : Shared) (H : Hp) (Q : VK) (E : XK), Room k (A.deeper (PySem.W.envX qual scope s.heap.objs.size f (.ref c) cl)) → sp [] H Q E →
      ∃ t, PE (cxLam CX P w K mg base N qual scope f (.ref c) cl A outer s H E) body t ∧ t σ H Q) :
    FnOk P w K mg base CX (k + 1) f (PySem.W.kla_fn "<lambda>" qual params body scope cl pm (.ref c) ctv) [] sp := by
  refine ⟨fun vs H Q E h => by rw [len vs H Q E h]; rfl, fun A outer s H args us vs Q E hr e0 hb r hsp => ?_⟩
  obtain rfl := len _ _ _ _ hsp
  have lim : s.heap.NoLimit := e0.mod.nolimit.keeps fun b o e => (e0.bs b o e).1
  have hC := hcd H Q E hsp
  have rcd : s.heap.CodeRec (.ref c) qual := (e0.hok c _ hC).1
  refine PySem.W.kla_callFunE hr.depth (e0.bs _ _ ho).1 rfl S.co S.gen rfl rcd (hb _ _ _ _ ?_)
  refine wpAny_newFunctionEnv S.nocell (fun x hx => ?_) (fun h1 hns hsb => ?_) S.kind
  · exact absurd (show x ∈ ([] : List (Str × Value)) from hx) (by simp)
  have hk : ∀ b o, s.heap.get? b = some o → h1.get? b = some o := fun b o e => (hsb.2 b (Nat.ne_of_lt (Heap.lt_size e))).trans (Heap.get?_push_of_some _ e)
  refine ⟨lim.keeps hk, ?_⟩
  show codeAny _ _ (.expr body (PySem.W.envX qual scope s.heap.objs.size f (.ref c) cl)) _ _
  obtain ⟨t, ht, hq⟩ := hbody A outer s H Q E (hr.deeper _) hsp
  have cellH : ∀ x d v, cl.lookup x = some d → base.IsCell d v → h1.IsCell d v ∧ H d = none := fun x d v _ ⟨o, e, z⟩ => ⟨⟨o, hk _ _ (e0.bs _ _ e).1, z⟩, (e0.bs _ _ e).2⟩
  have I : Inv (cxLam CX P w K mg base N qual scope f (.ref c) cl A outer s H E) [] σ H { s with heap := h1, toks := s.toks + (([] : List Str).zip us).length } := by
    have noA : ∀ b : Addr, b ∉ (cxLam CX P w K mg base N qual scope f (.ref c) cl A outer s H E).ex := fun b z => absurd (show b ∈ ([] : List Addr) from z) (by simp)
    refine ⟨⟨e0.mod, S.kind, rfl, rfl, Nat.le_refl _, Cp.inj, fun y hy => ?_, fun y d z _ => ?_, fun _ => hr.hd, Around.frames_deeper e0.frames, .inr ⟨rfl, rfl⟩, fun b z => absurd z (noA b), e0.bs, e0.bsz, fun b _ _ => noA b, fun b z => absurd z (noA b), e0.funs, e0.frf⟩,
      rfl, e0.bare, Un.kept hk, ⟨_, hns, fun i y v h1 h2 h3 => ?_⟩, fun y d h => ?_, e0.hok.fresh (Nat.le_refl _), fun y d h => ?_, fun p hp => absurd (show p ∈ ([] : List (Addr × Obj)) from hp) (by simp), e0.hok.kept hk, Cp.len⟩
    · have hy : scope.names.lookup y = some .cell ∨ scope.names.lookup y = some .free := hy
      rcases hy with hy | hy
      · exact absurd rfl (S.nocell _ (PySem.mem_of_lookup hy))
      · exact Cp.has y hy
    · exact absurd (show false = true from z) (by decide)
    · obtain ⟨d, u, k1, k2, k3, k4⟩ := Cp.val i y v h1 h2
      exact ⟨u, k4, .inr ⟨.inr k1, d, k2, (cellH y d _ k2 k3).1⟩⟩
    · obtain ⟨v, z⟩ := Cp.cell y d h
      exact ⟨v, (cellH y d _ h z).1⟩
    · obtain ⟨v, z⟩ := Cp.cell y d h
      exact (cellH y d _ h z).2
  refine PySem.W.kla_codeExpr (wpAny_mono (ht [] _ σ H Q I hq) (fun u s' hs => ?_) fun e s' hs => hs)
  obtain ⟨v, H', J, rv, q⟩ := hs
  exact ⟨v, H', J.os, J.bare, J.base, J.hok, rv, q⟩
end
theorem passL {P : Program} {w : World} {K : PySem.W.Frag} {mg : Str → Option Value} {base : Heap} {N : List Str} {qual : Str} {scope : Scope} {f : Addr} {cd : Value} {cl : List (Str × Addr)} {A : Around} {outer : List Env} {s : Shared} {H : Hp} {E : XK} :
    Passes (CXE P w) (cxLam (CXE P w) P w K mg base N qual scope f cd cl A outer s H E) E := by
  intro pins σ H1 s1 e s2 I h
  obtain ⟨ea, C, dx, tb, H0, H2, rfl, os, bare, un, hok, e1, ht, sx, n0, q⟩ := h
  have J : Inv (cxLam (CXE P w) P w K mg base N qual scope f cd cl A outer s H E) pins σ H2 s2 := I.call' (ch := []) os un hok bare fun b z => absurd z (by simp)
  refine leave_ok (X := cxLam (CXE P w) P w K mg base N qual scope f cd cl A outer s H E) rfl rfl J e1 ht fun s3 T H3 J3 e3 eT sx3 => ?_
  exact ⟨ea, C, dx, .ref T, H0, H3, rfl, J3.os, J3.bare, J3.base, J3.hok, e3, .inr ⟨T, rfl, eT⟩, fun b o hb z => sx3 b o hb (sx b o hb z), n0, q⟩
end L2
set_option Elab.async false
set_option linter.all false
set_option maxRecDepth 100000
set_option maxHeartbeats 1000000
namespace L2
open PySem PySem.Spec PyProof.Rows
def lcl (env : Env) : List (Str × NameKind) → List (Str × Addr) → List (Str × Addr)
  | [], acc => acc
  | (x, k) :: r, acc => if (k == .free) = true then lcl env r ((x, (env.cells.lookup x).getD 0) :: acc) else lcl env r acc
theorem forIn_cl {env : Env} {f : Str × NameKind → List (Str × Addr) → Sem (ForInStep (List (Str × Addr)))} (hf : ∀ x k cs, f (x, k) cs = if (k == .free) = true then (do let c ← cellOf env x; pure (.yield ((x, c) :: cs))) else pure (.yield cs)) :
    ∀ (names : List (Str × NameKind)) (acc : List (Str × Addr)), (∀ y ∈ names, y.2 = .free → ∃ c, env.cells.lookup y.1 = some c) → forIn names acc f = pure (lcl env names acc)
  | [], acc, _ => by simp [lcl]
  | (x, k) :: r, acc, h => by
    rw [List.forIn_cons, hf]
    unfold lcl
    by_cases hk : (k == .free) = true
    · obtain ⟨c, e⟩ := h (x, k) (.head _) (eq_of_beq hk)
      have e : env.cells.lookup x = some c := e
      have e2 : cellOf env x = pure c := by unfold cellOf; rw [e]
      rw [if_pos hk, if_pos hk, e2, pure_bind, pure_bind, e]
      exact forIn_cl hf r _ fun y hy => h y (.tail _ hy)
    · rw [if_neg hk, if_neg hk, pure_bind]
      exact forIn_cl hf r _ fun y hy => h y (.tail _ hy)
theorem closure_eq {scope : Scope} {env : Env} (h : ∀ y ∈ scope.names, y.2 = .free → ∃ c, env.cells.lookup y.1 = some c) : closureFor scope env = pure (lcl env scope.names []) := by
  have e := forIn_cl (env := env) (f := fun x cs => if (x.2 == .free) = true then (do let c ← cellOf env x.1; pure (.yield ((x.1, c) :: cs))) else pure (.yield cs)) (fun _ _ _ => rfl) scope.names [] h
  show (forIn scope.names [] _ >>= fun cs => pure cs) = _
  rw [bind_pure]
  exact e
theorem lcl_sound {env : Env} : ∀ (names : List (Str × NameKind)) (acc : List (Str × Addr)), (∀ y ∈ names, y.2 = .free → ∃ c, env.cells.lookup y.1 = some c) → (∀ x c, acc.lookup x = some c → env.cells.lookup x = some c) →
    ∀ x c, (lcl env names acc).lookup x = some c → env.cells.lookup x = some c
  | [], acc, _, ha => ha
  | (x, k) :: r, acc, h, ha => by
    unfold lcl
    by_cases hk : (k == .free) = true
    · rw [if_pos hk]
      obtain ⟨c, e⟩ := h (x, k) (.head _) (eq_of_beq hk)
      have e : env.cells.lookup x = some c := e
      refine lcl_sound r _ (fun y hy => h y (.tail _ hy)) fun y d q => ?_
      rw [List.lookup_cons] at q
      split at q
      · rename_i z
        rw [eq_of_beq z, e]
        rw [e] at q
        exact q
      · exact ha y d q
    · rw [if_neg hk]
      exact lcl_sound r _ (fun y hy => h y (.tail _ hy)) ha
theorem lcl_acc {env : Env} {x : Str} : ∀ (names : List (Str × NameKind)) (acc : List (Str × Addr)), (acc.lookup x).isSome = true → ((lcl env names acc).lookup x).isSome = true
  | [], acc, h => h
  | (y, k) :: r, acc, h => by
    unfold lcl
    split
    · refine lcl_acc r _ ?_
      rw [List.lookup_cons]
      split
      · rfl
      · exact h
    · exact lcl_acc r _ h
theorem lcl_has {env : Env} {x : Str} : ∀ (names : List (Str × NameKind)) (acc : List (Str × Addr)), (x, NameKind.free) ∈ names → ((lcl env names acc).lookup x).isSome = true
  | (y, k) :: r, acc, h => by
    unfold lcl
    rcases List.mem_cons.mp h with e | e
    · cases e
      rw [if_pos (show (NameKind.free == NameKind.free) = true by decide)]
      refine lcl_acc r _ ?_
      rw [List.lookup_cons, beq_self_eq_true]
      rfl
    · split
      · exact lcl_has r _ e
      · exact lcl_has r _ e
def capt (fm : List Nat) (σ : St) : St := fm.map fun j => σ.getD j none
theorem caps_of {X : Cx} {pins : List (Addr × Obj)} {σ : St} {H : Hp} {s : Shared} {N : List Str} {scope : Scope} {fm : List Nat} (I : Inv X pins σ H s) (hfn : ∀ x, X.fn x = true) (hfr : ∀ y ∈ scope.names, y.2 = .free → X.env.kindOf y.1 = some .cell) (hfm : fm.length = N.length)
    (hN : ∀ (i : Nat) (x : Str), N[i]? = some x → scope.names.lookup x = some .free ∧ ∃ j, fm[i]? = some j ∧ X.N[j]? = some x) : Caps (bigB s.heap H X.stack) N scope (lcl X.env scope.names []) (capt fm σ) := by
  have hc : ∀ y ∈ scope.names, y.2 = .free → ∃ c, X.env.cells.lookup y.1 = some c := fun y hy hk => I.ok.has y.1 (.inl (hfr y hy hk))
  have sound : ∀ x c, (lcl X.env scope.names []).lookup x = some c → X.env.cells.lookup x = some c := lcl_sound scope.names [] hc fun x c e => by cases e
  have cellB : ∀ x c v, X.env.cells.lookup x = some c → s.heap.IsCell c v → (bigB s.heap H X.stack).IsCell c v := fun x c v e ⟨o, ho, hd⟩ => by
    refine ⟨o, bigB_get ho (I.freeC x c e) fun hm => ?_, hd⟩
    rcases List.mem_cons.mp (I.stkSub c hm) with z | z
    · exact I.cne x c e z
    · obtain ⟨_, o2, ho2, _⟩ := I.ok.funs.mem z
      exact absurd (Nat.lt_of_lt_of_le (Heap.lt_size ho2) (I.ok.cab x c (hfn x) e)) (Nat.lt_irrefl _)
  refine ⟨fun x y c h1 h2 => I.ok.inj x y c (sound x c h1) (sound y c h2), fun x hx => ?_, fun x c e => ?_, fun i x v h1 h2 => ?_, by unfold capt; rw [List.length_map]; exact hfm⟩
  · exact Option.isSome_iff_exists.mp (lcl_has scope.names [] (PySem.mem_of_lookup hx))
  · obtain ⟨v, z⟩ := I.cell x c (sound x c e)
    exact ⟨v, cellB x c v (sound x c e) z⟩
  · obtain ⟨fr, j, e1, e2⟩ := hN i x h1
    have e3 : σ[j]? = some (some v) := by
      unfold capt at h2
      rw [List.getElem?_map, e1] at h2
      have h2 : some (σ.getD j none) = some (some v) := h2
      have h3 := Option.some.inj h2
      rw [List.getD_eq_getElem?_getD] at h3
      cases q : σ[j]? with
      | none => rw [q] at h3; cases h3
      | some a => rw [q] at h3; exact congrArg some h3
    obtain ⟨c, e4⟩ := Option.isSome_iff_exists.mp (lcl_has (env := X.env) scope.names [] (PySem.mem_of_lookup fr))
    have e5 := sound x c e4
    have kd : X.env.kindOf x = some .cell := hfr (x, .free) (PySem.mem_of_lookup fr) rfl
    obtain ⟨m, hn, hl⟩ := I.loc
    obtain ⟨u, r, l⟩ := hl j x v e2 e3 (.inr (.inl kd))
    refine ⟨c, u, fr, e4, cellB x c _ e5 ?_, r⟩
    rcases l with ⟨k, _⟩ | ⟨_, c2, k2, z⟩
    · rw [kd] at k; cases k
    · rw [e5] at k2; cases k2; exact z
end L2
set_option Elab.async false
set_option linter.all false
set_option maxRecDepth 100000
set_option maxHeartbeats 1000000
namespace L2
open PySem PySem.Spec PyProof.Rows
section
variable {X : Cx} {CX : CXT} {k : Nat} {f : Addr} {fd : FuncData} {ps : List Str} {sp : Sp} {E : XK} {x : Str} {p pos : Pos}
theorem run_big {pins : List (Addr × Obj)} {σ : St} {H : Hp} {s : Shared} {Q : VK} {us : List Value} {vs : List V} (F : FnOk X.prog X.w X.K X.mg (bigB s.heap H X.stack) CX k f fd ps sp) (hr : Room k X.A) (hb : Binds X.K fd ps []) (hx : Passes CX X E)
    (I : Inv X pins σ H s) (r : Vals vs us) (h : sp vs H Q E) : wpAny (model X.prog X.w) X.A (call (.ref f) us) (EP X pins σ Q) X.xe s := by
  have hl : (us ++ []).length = ps.length := by rw [List.append_nil, ← r.length]; exact F.len _ _ _ _ h
  have hbt := hb s us I.kIn hl
  rw [List.append_nil] at hbt
  refine wpAny_call (codeAny_mono (F.run X.A X.stack s H ⟨us, []⟩ us vs Q E hr I.env0.big hbt r h) fun r s' hq => ?_)
  cases r with
  | error e => exact hx pins σ H s e s' I hq
  | ok fl =>
    cases fl with
    | ret u => exact I.after hq
    | next => exact False.elim hq
    | brk => exact False.elim hq
    | cont => exact False.elim hq
def tCallV (i : Nat) (f : Addr) (sp : Sp) (E : XK) : TE := fun σ H Q => σ[i]? = some (some (.ref f)) ∧ sp [] H Q E
theorem pe_callL {i : Nat} (G : FnOk X.prog X.w X.K X.mg X.base CX k f fd [] sp) (hr : Room k X.A) (ho : X.base.get? f = some { cls := .type "function", data := .func fd }) (hb : Binds X.K fd [] []) (hx : Passes CX X E) (hN : X.N[i]? = some x) (hv : Vis X.env.scope x)
    (hd : (x == ("__debug__" : Str)) = false := by decide) (hcd : (x == ("__classdict__" : Str)) = false := by decide) : PE X (.Call (.Name x p) [] [] pos) (tCallV i f sp E) := by
  intro pins s σ H Q I h
  obtain ⟨e, h⟩ := h
  refine wpAny_Call_Name_kw (thn (pe_var hN hv hd hcd pins s σ H (fun v H' => v = .ref f ∧ H' = H) I ⟨_, e, rfl, rfl⟩) fun u s1 ⟨v, H1, I1, r, ev, eH⟩ => ?_)
  subst ev eH
  obtain rfl : u = Value.ref f := r
  refine PySem.W.callWith_of (P := fun h => h.get? f = some { cls := .type "function", data := .func fd }) rfl (fun h q => ⟨.frame, .inl rfl, (PySem.W.Looks.ld (part := none) q).andThen .now⟩) (evalArgs_nil3 ⟨I1.bk _ _ ho, ?_⟩)
  exact run_fn (us := []) (vs := []) (dvs := []) G hr hb .nil hx I1 .nil h
def wordE (K : PySem.W.Frag) (W : Addr) (Q : VK) : XK := fun C d H0 => ∃ (Ca dx : Addr) (ww : Str), C = .ref Ca ∧ d = some dx ∧ H0 dx = some (.xd [("word", .str ww)]) ∧ XSub K Ca W ∧ XKl K Ca ∧ ∀ H' r, Same H0 H' → H' r = none → Q (.ref r) (upd H' r (.tup [.str ww]))
def toldQ (Q : VK) : VK := fun v H2 => [V.str "told", v].length ≤ sizeLine ∧ ∀ r, H2 r = none → Q (.ref r) (upd H2 r (.tup [.str "told", v]))
theorem toldQ.mk {Q : VK} {v : V} {H2 : Hp} (h : ∀ r, H2 r = none → Q (.ref r) (upd H2 r (.tup [.str "told", v]))) : toldQ Q v H2 := ⟨Nat.le_trans (show 2 ≤ 100 by decide) (by decide), h⟩
def spWord (K : PySem.W.Frag) (W f : Addr) (spl : Sp) : Sp := fun vs H Q _ => vs = [.ref f] ∧ spl [] H (toldQ Q) (wordE K W Q)
def tWord (K : PySem.W.Frag) (W P : Addr) (q : Str) (fm : List Nat) (t : XK → TE) : TE := fun σ H Q => TabOk H P q ∧ ∀ H1, TabOk H1 P q → SameP P H H1 → t (wordE K W Q) (capt fm σ) H1 (toldQ Q)
theorem pe_word {st : Stmt} {y : Str} {fw W c P : Addr} {fdw : FuncData} {kl kw : Nat} {params : Arguments} {body : Expr} {scope : Scope} {lpos : Pos} {N : List Str} {fm : List Nat} {t : XK → TE} (Dw : Df X.K X.mg x st [y] fw fdw)
    (Gw : ∀ (base : Heap) (f : Addr) (fdl : FuncData) (spl : Sp), base.get? f = some { cls := .type "function", data := .func fdl } → Binds X.K fdl [] [] → FnOk X.prog X.w X.K X.mg base (CXE X.prog X.w) (kl + 1) f fdl [] spl →
      FnOk X.prog X.w X.K X.mg base (CXE X.prog X.w) kw fw fdw [y] (spWord X.K W f spl))
    (hr : Room kw X.A) (hcode : X.env.code = .ref c) (C : PySem.W.CodeHd X.base c P) (B : BMain X.mg X.base) (hfn : ∀ x, X.fn x = true)
    (S : LamScope scope) (hfr : ∀ y ∈ scope.names, y.2 = .free → X.env.kindOf y.1 = some .cell) (hfm : fm.length = N.length) (hN : ∀ (i : Nat) (x : Str), N[i]? = some x → scope.names.lookup x = some .free ∧ ∃ j, fm[i]? = some j ∧ X.N[j]? = some x)
    (hbl : ∀ (base : Heap) (f c' : Addr) (A : Around) (outer : List Env) (s : Shared) (H : Hp) (E : XK), Room kl (A.deeper (PySem.W.envX (X.env.qual ++ "<lambda>") scope s.heap.objs.size f (.ref c') (lcl X.env scope.names []))) →
      PE (cxLam (CXE X.prog X.w) X.prog X.w X.K X.mg base N (X.env.qual ++ "<lambda>") scope f (.ref c') (lcl X.env scope.names []) A outer s H E) body (t E))
    (hx : Passes (CXE X.prog X.w) X E0) (hg : Gl X x := by rfl) (hdef : defaultsOf params X.env = ([], []) := by rfl)
    (hbind : ∀ (q : Str) (cl : List (Str × Addr)) (pm ctv : Value) (c' : Addr), bindArgs (PySem.W.kla_fn "<lambda>" q params body scope cl pm (.ref c') ctv) ⟨[], []⟩ = pure [] := by intro _ _ _ _ _; rfl)
    (hdb : (x == ("__debug__" : Str)) = false := by decide) : PE X (.Call (.Name x p) [.Lambda params body scope lpos] [] pos) (tWord X.K W P (X.env.qual ++ "<lambda>") fm t) := by
  intro pins s σ H Q I h
  obtain ⟨T, h⟩ := h
  have hc : ∀ y ∈ scope.names, y.2 = .free → ∃ c, X.env.cells.lookup y.1 = some c := fun y hy hk => I.ok.has y.1 (.inl (hfr y hy hk))
  refine wpAny_Call_Name_kw (ld_glob I hg Dw.mg ?_ hdb)
  refine PySem.W.callWith_K (h₀ := X.base) I.ok.mod.kin Dw.F.kp ?_ (by rfl) (by rfl)
  show wpAny _ _ (spliced ((false, eval (.Lambda params body scope lpos) X.env) :: backTo pos (starEach [] X.env))) _ _ s
  refine Calls.spliced_cons (lam_make I hdef (closure_eq hc) hcode C B T fun f c' ctv H1 s1 I1 ho nf nfr hC T1 sp1 => ?_)
  refine Calls.spliced_nil ⟨I1.kIn, ?_⟩
  have hob : (bigB s1.heap H1 X.stack).get? f = some (lamObj (X.env.qual ++ "<lambda>") params body scope (lcl X.env scope.names []) ((X.mg "__name__").getD .none) c' ctv) := bigB_get ho nf nfr
  have hbl' : Binds X.K (PySem.W.kla_fn "<lambda>" (X.env.qual ++ "<lambda>") params body scope (lcl X.env scope.names []) ((X.mg "__name__").getD .none) (.ref c') ctv) [] [] := .all fun us hl => by
    obtain rfl := List.eq_nil_of_length_eq_zero hl
    exact hbind _ _ _ _ _
  have L := lam_fn (CX := CXE X.prog X.w) (P := X.prog) (w := X.w) (K := X.K) (mg := X.mg) (k := kl) (sp := fun vs H Q E => vs = [] ∧ H c' = some (CodeE c' (X.env.qual ++ "<lambda>")) ∧ t E (capt fm σ) H Q) hob S (caps_of I1 hfn hfr hfm hN) (fun _ _ _ _ z => z.1) (fun _ _ _ z => z.2.1)
    fun A outer s H Q E hr z => ⟨t E, hbl _ f c' A outer s H E hr, z.2.2⟩
  exact run_big (E := E0) (Gw _ f _ _ hob hbl' L) hr Dw.b hx I1 (vs := [.ref f]) (.cons rfl .nil) ⟨rfl, rfl, hC, h H1 T1 sp1⟩
end
end L2
set_option Elab.async false
set_option linter.all false
set_option maxRecDepth 100000
set_option maxHeartbeats 1000000
namespace L2
open PySem PySem.Spec PyProof.Rows
theorem law_callT {P : Program} {w : World} {K : PySem.W.Frag} {mg mb : Str → Option Value} {CX : CXT} {k : Nat} {fa a : Addr} {fd : FuncData} {x : Str} {sp : Sp} {s₁ : Shared} {vs : List Value} {ns : List Int} {ts : List Addr}
    (KX : K.In s₁.heap) (hns : s₁.heap.Ns mainGlobals mg) (hb : s₁.heap.Ns builtinsNs mb) (hbb : ∀ x : Str, x ≠ "__name__" → mb x = bootBuiltins x) (hlim : s₁.heap.NoLimit) (hg : s₁.gens = #[])
    (ha : s₁.heap.get? a = some { cls := .type "list", data := .seq vs.toArray }) (hi : IntsAre vs ns) (hl : ns.length ≤ sizeLine) (hr : Room k callerA)
    (hT : ∀ P ∈ ts, s₁.heap.get? P = some (PySem.W.tabObj #[])) (hKT : ∀ P ∈ ts, K.lookup P = none) (hct : ∀ P ∈ ts, isCodeTable s₁.heap P) (BM : BMain mg s₁.heap)
    (F : ∀ base : Heap, K.In base → base.Ns mainGlobals mg → BMain mg base → FnOk P w K mg base CX k fa fd [x] sp) (hbind : ∀ (s : Shared) (u : Value), BindsTo s fd ⟨[u], []⟩ [(x, u)])
    (hsp : ∀ H : Hp, SqL K H a (ns.map V.int) → (∀ P ∈ ts, H P = some (.tbl #[])) → sp [.ref a] H (fun v _ => v = .bl true) fun _ _ _ => False)
    (hCX : ∀ H e s', CX [] H s₁ (fun _ _ _ => False) e s' → False) :
    codeAny (model P w) callerA (.call (.ref fa) ⟨[.ref a], []⟩) (fun r s' => r = .ok (.ret (.bool true)) ∧ OldK s₁.heap s'.heap ∧ s'.os = s₁.os ∧ AllBare s'.gens) s₁ := by
  have rv := vals_ints hi
  have lenV := hi.length
  have naT : a ∉ ts := fun z => by
    have := hT a z
    rw [ha] at this
    cases this
  have core : ∀ H : Hp, (∀ b, H b = none ∨ (b = a ∧ K.lookup a = none ∧ ∃ xs, H b = some (.frz { cls := .type "list", data := .seq vs.toArray } (.lst xs))) ∨ (b ∈ ts ∧ H b = some (.tbl #[]))) → SqL K H a (ns.map V.int) → (∀ P ∈ ts, H P = some (.tbl #[])) → HOk P w H s₁.heap →
      codeAny (model P w) callerA (.call (.ref fa) ⟨[.ref a], []⟩) (fun r s' => r = .ok (.ret (.bool true)) ∧ OldK s₁.heap s'.heap ∧ s'.os = s₁.os ∧ AllBare s'.gens) s₁ := by
    intro H hO hS hTs hok
    have base_of : ∀ {b : Addr} {o : Obj}, s₁.heap.get? b = some o → H b = none → (hidT s₁.heap H).get? b = some o := fun e n => hidT_get e n
    have noT : ∀ {b : Addr} {o : Obj}, s₁.heap.get? b = some o → (∀ n, o.data ≠ .seq vs.toArray n) → (∀ xs, o.data ≠ .fields xs) → H b = none := fun {b o} e d1 d2 => by
      rcases hO b with z | ⟨rfl, _, _, z⟩ | ⟨z, _⟩
      · exact z
      · rw [ha] at e; cases e
        exact absurd rfl (d1 _)
      · rw [hT b z] at e; cases e
        exact absurd rfl (d2 _)
    have nsK : ∀ {b : Addr} {m : Str → Option Value}, s₁.heap.Ns b m → (hidT s₁.heap H).Ns b m := fun {b m} ⟨o, es, ep, e, d, r⟩ => ⟨o, es, ep, base_of e (noT e (fun n z => by rw [d] at z; cases z) (fun xs z => by rw [d] at z; cases z)), d, r⟩
    have hKb : K.In (hidT s₁.heap H) := fun b o e => base_of (KX b o e) (by
      rcases hO b with z | ⟨rfl, z, _⟩ | ⟨z, _⟩
      · exact z
      · rw [z] at e; cases e
      · rw [hKT b z] at e; cases e)
    have hM : Mod K mg (hidT s₁.heap H) := ⟨hKb, nsK hns, ⟨mb, nsK hb, hbb⟩, let ⟨mc, h1, h2⟩ := hlim; ⟨mc, nsK h1, h2⟩⟩
    have hBM : BMain mg (hidT s₁.heap H) := by
      obtain ⟨bm, ob, e1, e2, e3, e4, e5, e6⟩ := BM.ex
      exact ⟨bm, ob, e1, e2, base_of e3 (noT e3 (fun n z => by rw [e6] at z; cases z) (fun xs z => by rw [e6] at z; cases z)), e4, e5, e6⟩
    have e0 : Env0 P w K mg (hidT s₁.heap H) callerA [] s₁ H := ⟨rfl, hM, fun b o e => of_hidT e, Nat.le_of_eq (hidT_size _ _), trivial, fun b hb => absurd (show b ∈ ([] : List Addr) from hb) (by simp), hok, .of_eq hg⟩
    refine codeAny_mono ((F _ hKb (nsK hns) hBM).run callerA [] s₁ H ⟨[.ref a], []⟩ [.ref a] [.ref a] _ _ hr e0 (hbind s₁ (.ref a)) (.cons rfl .nil) (hsp H hS hTs)) fun r s' h => ?_
    cases r with
    | error e => exact (hCX H e s' h).elim
    | ok fl =>
      cases fl with
      | next => exact False.elim h
      | brk => exact False.elim h
      | cont => exact False.elim h
      | ret u =>
        obtain ⟨v, H', os, bare, un, hok', r', q⟩ := h
        have q' : v = .bl true := q
        subst q'
        obtain rfl : u = Value.bool true := r'
        refine ⟨rfl, ⟨fun b o e => ?_, fun b o e => un.there b o e (by simp)⟩, os, bare⟩
        rcases hO b with z | ⟨rfl, _, xs, z⟩ | ⟨zt, z⟩
        · exact .inl (un.keep b o e z (by intro z; exact absurd (show b ∈ ([] : List Addr) from z) (by simp)) (by simp))
        · have z2 := un.frzs b _ _ z
          obtain ⟨e1, _⟩ := hok b _ z
          obtain ⟨e2, _⟩ := hok' b _ z2
          rw [e] at e1; cases e1
          exact .inl e2
        · obtain ⟨more, z2⟩ := un.tbls b _ z
          have e1 := hok' b _ z2
          rw [hT b zt] at e; cases e
          exact .inr (.inl ⟨hct b zt, rfl, #[], more, rfl, e1⟩)
  have okT : ∀ (H : Hp) (b : Addr), b ∈ ts → ObjOk P w H s₁.heap b (.tbl #[]) := fun H b hb => hT b hb
  cases hk : K.lookup a with
  | some o =>
    have e := KX a o hk
    rw [ha] at e
    cases e
    refine core (fun b => if b ∈ ts then some (.tbl #[]) else none) (fun b => ?_) (.inr ⟨_, vs.toArray, _, hk, rfl, rfl, rfl, by rw [List.size_toArray, lenV]; exact hl, by simpa using rv⟩) (fun b hb => if_pos hb) (fun b u z => ?_)
    · by_cases hb : b ∈ ts
      · exact .inr (.inr ⟨hb, if_pos hb⟩)
      · exact .inl (if_neg hb)
    · by_cases hb : b ∈ ts
      · have z' := (if_pos hb).symm.trans z
        cases z'
        exact okT _ b hb
      · have z' := (if_neg hb).symm.trans z
        cases z'
  | none =>
    refine core (fun b => if b ∈ ts then some (.tbl #[]) else if b = a then some (.frz { cls := .type "list", data := .seq vs.toArray } (.lst (ns.map V.int))) else none) (fun b => ?_) (.inl (.inr ⟨{ cls := .type "list", data := .seq vs.toArray }, ?_⟩)) (fun b hb => if_pos hb) (fun b u z => ?_)
    · by_cases hb : b ∈ ts
      · exact .inr (.inr ⟨hb, if_pos hb⟩)
      · by_cases hb2 : b = a
        · exact .inr (.inl ⟨hb2, hk, _, (if_neg hb).trans (if_pos hb2)⟩)
        · exact .inl ((if_neg hb).trans (if_neg hb2))
    · exact (if_neg naT).trans (if_pos rfl)
    · by_cases hb : b ∈ ts
      · have z' := (if_pos hb).symm.trans z
        cases z'
        exact okT _ b hb
      · have z := (if_neg hb).symm.trans z
        by_cases hb2 : b = a
        · have z' := (if_pos hb2).symm.trans z
          cases z'
          subst hb2
          exact ⟨ha, by rw [List.length_map]; exact hl, vs, _, rv, ha⟩
        · have z' := (if_neg hb2).symm.trans z
          cases z'
theorem walk_ofT {l : PySem.W.OpenLaw} {n k : Nat} {q : Program} {loose : List Str} {XP : (Str → Option Value) → Heap → Prop} {YP : World → Heap → Prop} {d : DefRec} {K : Params → PySem.W.Frag} {CX : World → CXT} {sp : World → Sp} {x : Str} {tabs : List (Addr × Addr)}
    (hn : l.most = some n) (hn2 : n ≤ sizeLine) (hdf : d.params.defaults = []) (hr : Room k callerA)
    (hY : ∀ (w : World) (h : Heap), YP w h → (K w.params).In h) (hT : ∀ (w : World) (h : Heap), YP w h → ∀ q ∈ tabs, h.get? q.2 = some (PySem.W.tabObj #[]))
    (hC : ∀ (w : World) (h : Heap), (K w.params).In h → ∀ q ∈ tabs, PySem.W.CodeHd h q.1 q.2) (hK : ∀ (w : World), ∀ q ∈ tabs, (K w.params).lookup q.2 = none)
    (F : ∀ (w : World) (mg : Str → Option Value) (fa : Addr) (h : Heap), (K w.params).In h → h.Ns mainGlobals mg → mg d.name = some (.ref fa) →
      ∃ fd : FuncData, (∀ (s : Shared) (u : Value), BindsTo s fd ⟨[u], []⟩ [(x, u)]) ∧
        ∀ base : Heap, (K w.params).In base → base.Ns mainGlobals mg → BMain mg base → FnOk l.prog w (K w.params) mg base (CX w) k fa fd [x] (sp w))
    (hsp : ∀ (w : World) (H : Hp) (a : Addr) (ns : List Int), ns.length ≤ n → SqL (K w.params) H a (ns.map V.int) → (∀ q ∈ tabs, H q.2 = some (.tbl #[])) → sp w [.ref a] H (fun v _ => v = .bl true) fun _ _ _ => False)
    (hCX : ∀ (w : World) (H : Hp) (s : Shared) (e : Value) (s' : Shared), CX w [] H s (fun _ _ _ => False) e s' → False) :
    PySem.W.WalkO q loose XP YP l.row.toRowW d [] (fun f vs => PySem.call f vs) := by
  refine Att.attach_call hn hdf fun w s₀ s₁ mg mb fa o pm cd doc a vs ns G Y ho hd hcd hmg hobj hints hlen hg => ?_
  have KX := hY w _ Y
  obtain ⟨fd, hb, hF⟩ := F w mg fa _ KX G.T.g hmg
  have tb : ∀ P ∈ tabs.map (·.2), ∃ c, (c, P) ∈ tabs := fun P hP => by
    obtain ⟨⟨c, P'⟩, hq, rfl⟩ := List.mem_map.mp hP
    exact ⟨c, hq⟩
  refine law_callT (ts := tabs.map (·.2)) KX G.T.g G.T.b G.T.builtins G.T.nolimit hg hobj hints (Nat.le_trans hlen hn2) hr (fun P hP => ?_) (fun P hP => ?_) (fun P hP => ?_) ⟨G.T.bmain⟩ hF hb (fun H hS hTs => hsp w H a ns hlen hS fun q hq => hTs q.2 (List.mem_map_of_mem hq)) fun H e s' => hCX w H s₁ e s'
  · obtain ⟨c, hq⟩ := tb P hP; exact hT w _ Y _ hq
  · obtain ⟨c, hq⟩ := tb P hP; exact hK w _ hq
  · obtain ⟨c, hq⟩ := tb P hP
    exact ((hC w _ KX _ hq).tab (hT w _ Y _ hq)).isCodeTable
end L2
set_option Elab.async false
set_option linter.all false
set_option maxRecDepth 100000
set_option maxHeartbeats 1000000
namespace L2
open PySem
def qL : Str := "law" ++ ".<locals>." ++ "<lambda>"
theorem TabOk.ne {H : Hp} {Pt b : Addr} {o : HO} (t : TabOk H Pt qL) (e : H b = some o) (n : ∀ ps, o ≠ .tbl ps) : b ≠ Pt := fun z => by
  obtain ⟨ps, hp, _⟩ := t.ex
  rw [z, hp] at e; cases e; exact n _ rfl
theorem keepP {H H' : Hp} {Pt b : Addr} {o : HO} (t : TabOk H Pt qL) (s : SameP Pt H H') (e : H b = some o) (n : ∀ ps, o ≠ .tbl ps) : H' b = some o := s _ _ (TabOk.ne t e n) e
theorem tx_rep1 (a n : Nat) : strRep (⟨#[a]⟩ : Str) (n : Int) = tx n (fun _ => a) := by
  have f : ∀ (k : Nat) (b : Array Nat), (List.replicate k (#[a] : Array Nat)).foldl (· ++ ·) b = b ++ (List.replicate k a).toArray := by
    intro k
    induction k with
    | zero => intro b; simp
    | succ k ih =>
      intro b
      rw [List.replicate_succ, List.foldl_cons, ih, List.replicate_succ]
      show b ++ #[a] ++ _ = _
      rw [Array.append_assoc]
      congr 1
      show (#[a] : Array Nat) ++ _ = _
      rw [show (#[a] : Array Nat) = [a].toArray from rfl, List.append_toArray]
      rfl
  unfold strRep
  by_cases h0 : (n : Int) < 1
  · rw [if_pos h0]
    have : n = 0 := by omega
    subst this
    rfl
  · rw [if_neg h0]
    by_cases h1 : n = 1
    · subst h1; rfl
    · have e : (((n : Int) == 1) || ((⟨#[a]⟩ : Str).length == 0)) = false := by
        have : ((n : Int) == 1) = false := by simpa using (by omega : ¬ (n : Int) = 1)
        rw [this]; rfl
      rw [e]
      show (⟨_⟩ : Str) = ⟨_⟩
      have e2 : ((List.range n).map fun _ => a) = List.replicate n a := by
        rw [List.eq_replicate_iff]
        exact ⟨by simp, fun b hb => by obtain ⟨_, _, e⟩ := List.mem_map.mp hb; exact e.symm⟩
      rw [e2]
      congr 1
      show (List.replicate (n : Int).toNat (#[a] : Array Nat)).foldl (· ++ ·) #[] = _
      rw [f]
      show #[] ++ _ = _
      rw [Array.empty_append]
      rfl
theorem den_t1 {K : PySem.W.Frag} {H : Hp} {p : Addr} {x : V} {d : Dt} (h : H p = some (.tup [x])) (hx : Den K H x d) : Den K H (.ref p) (.tup [d]) := by
  refine .tup (.inl (.inl h)) rfl (show 1 ≤ 5000 by decide) fun i u v hu hv => ?_
  match i, hu, hv with
  | 0, hu, hv => cases hu; cases hv; exact hx
  | _ + 1, hu, _ => cases hu
theorem eqb_t1 (a : Str) : (Dt.tup [.str a]).eqb (.tup [.str a]) = true := by
  show (decide (a = a) && true) = true
  rw [decide_eq_true rfl]; rfl
theorem TabOk.frame {H H' : Hp} {P : Addr} {q : Str} (t : TabOk H P q) (e : ∀ b o, (∀ xs, o ≠ .lst xs) → (∀ c, o ≠ .dK c) → (∀ c, o ≠ .dT c) → H b = some o → H' b = some o) : TabOk H' P q := by
  obtain ⟨ps, h1, h2, h3⟩ := t
  exact ⟨ps, e _ _ (fun _ z => by cases z) (fun _ z => by cases z) (fun _ z => by cases z) h1, h2, fun pos cv z => let ⟨c, e1, e2, e3⟩ := h3 pos cv z; ⟨c, e1, e2, e _ _ (fun _ z => by cases z) (fun _ z => by cases z) (fun _ z => by cases z) e3⟩⟩
end L2
set_option Elab.async false
set_option linter.all false
set_option maxRecDepth 100000
set_option maxHeartbeats 1000000
namespace L2
open PySem PySem.Spec PyProof.Rows
section
variable {X : Cx}
end
end L2
set_option Elab.async false
set_option linter.all false
set_option maxRecDepth 100000
set_option maxHeartbeats 1000000
namespace L2
open PySem PySem.Spec PyProof.Rows
theorem Vals.len_ {xs : List V} {us : List Value} (h : Vals xs us) : xs.length = us.length := by
  induction h with
  | nil => rfl
  | cons _ _ ih => rw [List.length_cons, List.length_cons, ih]
section
variable {X : Cx}
end
end L2
set_option Elab.async false
set_option linter.all false
set_option maxRecDepth 100000
set_option maxHeartbeats 1000000
namespace L2
open PySem PySem.Spec PyProof.Rows
def Dt.pyq : Dt → Dt → Bool
  | .non, .non => true
  | .bl a, .bl b => a == b
  | .int a, .int b => a == b
  | .bl a, .int b => (if a then 1 else 0) == b
  | .int a, .bl b => a == (if b then 1 else 0)
  | .str a, .str b => a == b
  | .lst a, .lst b => pyqs a b
  | .tup a, .tup b => pyqs a b
  | _, _ => false
where pyqs : List Dt → List Dt → Bool
  | [], [] => true
  | a :: r, b :: s => a.pyq b && pyqs r s
  | _, _ => false
theorem relV_inj {x y : V} {u : Value} (h1 : RelV x u) (h2 : RelV y u) : x = y := by
  cases x <;> cases y <;> simp only [RelV] at h1 h2 <;> (try subst h1) <;> (try (obtain ⟨t, rfl⟩ := h1)) <;> (try (obtain ⟨t2, h2⟩ := h2)) <;> (try cases h2) <;> rfl
theorem vals_inj : ∀ {xs ys : List V} {us : List Value}, Vals xs us → Vals ys us → xs = ys
  | _, _, _, .nil, .nil => rfl
  | _, _, _, .cons r t, .cons r' t' => by rw [relV_inj r r', vals_inj t t']
theorem isList_inj {h : Heap} {l : Addr} {a b : Array Value} (h1 : h.IsList l a) (h2 : h.IsList l b) : a = b := by
  obtain ⟨o, e, _, n, d⟩ := h1
  obtain ⟨o', e', _, n', d'⟩ := h2
  rw [e] at e'
  cases e'
  rw [d] at d'
  injection d'
theorem isTup_inj {h : Heap} {l : Addr} {a b : Array Value} (h1 : h.IsTuple l a) (h2 : h.IsTuple l b) : a = b := by
  obtain ⟨o, e, _, n, d⟩ := h1
  obtain ⟨o', e', _, n', d'⟩ := h2
  rw [e] at e'
  cases e'
  rw [d] at d'
  injection d'
section
variable {X : Cx} {pins : List (Addr × Obj)} {s : Shared} {σ : St} {H : Hp}
theorem den_inj (I : Inv X pins σ H s) {x : V} {d : Dt} (h : Den X.K H x d) : ∀ {e : Dt}, Den X.K H x e → d = e := by
  induction h with
  | non => intro e h'; cases h'; rfl
  | bl b => intro e h'; cases h'; rfl
  | int b => intro e h'; cases h'; rfl
  | str b => intro e h'; cases h'; rfl
  | @lst a xs ds h1 h2 h3 h4 ih =>
    intro e h'
    cases h' with
    | @lst _ xs' ds' g1 g2 g3 g4 =>
      obtain ⟨its, r1, p1, _⟩ := I.list h1
      obtain ⟨its2, r2, p2, _⟩ := I.list g1
      have e : its = its2 := by have := isList_inj p1.isList p2.isList; simpa using this
      subst e
      have e := vals_inj r1 r2
      subst e
      congr 1
      refine List.ext_getElem (by omega) fun j j1 j2 => ?_
      have z1 : xs[j]? = some xs[j] := List.getElem?_eq_getElem (by omega)
      exact ih j _ _ z1 (List.getElem?_eq_getElem j1) (g4 j _ _ z1 (List.getElem?_eq_getElem j2))
    | @tup _ xs' ds' g1 g2 g3 g4 =>
      obtain ⟨its, r1, p1, _⟩ := I.list h1
      obtain ⟨its2, r2, p2, _⟩ := I.tuple g1
      exact absurd rfl (SeqAt.ne_of_list_tuple p1.isList p2)
  | @tup a xs ds h1 h2 h3 h4 ih =>
    intro e h'
    cases h' with
    | @tup _ xs' ds' g1 g2 g3 g4 =>
      obtain ⟨its, r1, p1, _⟩ := I.tuple h1
      obtain ⟨its2, r2, p2, _⟩ := I.tuple g1
      have e : its = its2 := by have := isTup_inj p1 p2; simpa using this
      subst e
      have e := vals_inj r1 r2
      subst e
      congr 1
      refine List.ext_getElem (by omega) fun j j1 j2 => ?_
      have z1 : xs[j]? = some xs[j] := List.getElem?_eq_getElem (by omega)
      exact ih j _ _ z1 (List.getElem?_eq_getElem j1) (g4 j _ _ z1 (List.getElem?_eq_getElem j2))
    | @lst _ xs' ds' g1 g2 g3 g4 =>
      obtain ⟨its, r1, p1, _⟩ := I.tuple h1
      obtain ⟨its2, r2, p2, _⟩ := I.list g1
      exact absurd rfl (SeqAt.ne_of_list_tuple p2.isList p1)
end
section
variable {X : Cx}
open Classical in
noncomputable def eqOf (us : List Value) (ds : List Dt) (d : Dt) (u : Value) : Bool := decide (∃ (j : Nat) (c : Dt), us[j]? = some u ∧ ds[j]? = some c ∧ c.pyq d = true)
open Classical in
theorem eqOf_at {pins : List (Addr × Obj)} {s : Shared} {σ : St} {H : Hp} (I : Inv X pins σ H s) {xs : List V} {us : List Value} {ds : List Dt} (r : Vals xs us) (hd : ∀ (i : Nat) x d, xs[i]? = some x → ds[i]? = some d → Den X.K H x d) (d : Dt) {j : Nat} {u : Value} {c : Dt} (h1 : us[j]? = some u) (h2 : ds[j]? = some c) : eqOf us ds d u = c.pyq d := by
  have l := r.len_
  have jl := (List.getElem?_eq_some_iff.mp h1).1
  have z : xs[j]? = some xs[j] := List.getElem?_eq_getElem (by omega)
  obtain ⟨u', e1, r1⟩ := Vals.get r z
  rw [h1] at e1
  cases e1
  rw [Bool.eq_iff_iff]
  unfold eqOf
  rw [decide_eq_true_iff]
  constructor
  · rintro ⟨j', c', a, b, e⟩
    have jl' := (List.getElem?_eq_some_iff.mp a).1
    have z' : xs[j']? = some xs[j'] := List.getElem?_eq_getElem (by omega)
    obtain ⟨u', e1, r2⟩ := Vals.get r z'
    rw [a] at e1
    cases e1
    have q := hd _ _ _ z' b
    rw [relV_inj r2 r1] at q
    rw [den_inj I (hd _ _ _ z h2) q]
    exact e
  · intro e
    exact ⟨j, c, h1, h2, e⟩
end
end L2
set_option Elab.async false
set_option linter.all false
set_option maxRecDepth 100000
set_option maxHeartbeats 1000000
namespace L2
open PySem PySem.Spec PyProof.Rows
section
variable {X : Cx} {pos : Pos}
def tDisp1T (tk tv : TE) : TE := fun σ H Q => ∀ p, H p = none → tPairs [(tk, tv)] σ (upd H p (.dT [])) fun ps H2 => ∃ k b y, ps = [(.ref b, y)] ∧ H2 b = some (.tup (k.map kV)) ∧ H2 p = some (.dT []) ∧ Q (.ref p) (upd H2 p (.dT [(k, y)]))
theorem pe_disp1T {k v : Expr} {tk tv : TE} (hu : X.A.units + 1 < cLine) (hk : PE X k tk) (hv : PE X v tv) : PE X (.Dict [some k] [v] pos) (tDisp1T tk tv) := by
  intro pins s σ H Q I q
  have hn := I.hok.fresh (Nat.le_refl s.heap.objs.size)
  have I1 := I.laid (a := s.heap.objs.size) (o := .dT []) (h' := s.heap.push { cls := .type "dict", data := .dict #[] }) (t' := s.toks) (fun _ _ q => Heap.get?_push_of_some _ q) (Nat.le_refl _) (dt_empty s.heap I.big)
  refine wpAny_Dict_any rfl rfl (by intro z; cases z) (by decide : 1 ≤ 15) (thn (pps_cons hk hv pps_nil pins _ σ _ _ I1 (q _ hn)) ?_)
  · rintro ws s2 ⟨ps, H2, I2, rel, kk, b, y, rfl, eb, ep, q2⟩
    obtain ⟨u, r, rfl, ru, rr⟩ : ∃ u r, ws = [(u, r)] ∧ RelV (.ref b) u ∧ RelV y r := by
      cases rel with
      | cons h t => cases t; exact ⟨_, _, rfl, h.1, h.2⟩
    cases (show u = Value.ref b from ru)
    unfold storeAll
    rw [List.forIn_cons]
    obtain ⟨z, hd, xs, rel, dd⟩ := dt_of I2.hok ep
    cases rel
    refine wpAny_bind (wpAny_bind (wpAny_dictSet_heap (hsz := Nat.zero_le _) (knd := tupleKind (mixKind X.prog X.w)) (show X.A.units < cLine by omega) (key_of I2.hok eb) dd fun h' dd' hs => wpAny_pure ?_))
    show wpAny _ _ (forIn [] _ _) _ _ _
    rw [List.forIn_nil]
    refine wpAny_pure ⟨.ref s.heap.objs.size, _, ?_, rfl, q2⟩
    obtain ⟨q, es, e2, hq, h2, h3, h4, _, h5⟩ := dd'
    refine d_write I2 (by rw [ep]; exact True.intro) hs ⟨q, hq⟩ ⟨(by show 1 ≤ sizeLine; rw [sizeLine_eq]; decide), hd, _, ?_, q, es, e2, hq, h2, h3, h4, h5⟩
    refine .cons ⟨rfl, ?_, rr⟩ .nil
    rw [upd_ne (ne_of eb ep (fun z => nomatch z))]
    exact eb
def tOrT (K : PySem.W.Frag) (ta tb : TE) : TE := fun σ H Q => ta σ H fun x H1 => ∃ k, TruV K x H1 k ∧ if k = true then Q x H1 else tb σ H1 Q
theorem pe_orT {a b : Expr} {rest : List Expr} {ta tb : TE} (ha : PE X a ta) (hb : PE X (.BoolOp .Or (b :: rest) pos) tb) : PE X (.BoolOp .Or (a :: b :: rest) pos) (tOrT X.K ta tb) := by
  intro pins s σ H Q I h
  refine BoolOp_or (thn (ha pins s σ H _ I h) fun v s1 ⟨x, H1, I1, r1, k, t1, q1⟩ => ?_)
  refine thn (tru_ok pins s1 σ H1 x v (fun c H2 => c = k ∧ H2 = H1) I1 r1 ⟨k, t1, rfl, rfl⟩) ?_
  rintro c s2 ⟨H2, I2, rfl, rfl⟩
  cases c with
  | true => exact ⟨x, H2, I2, r1, q1⟩
  | false => exact hb pins s2 σ H2 Q I2 q1
end
end L2
set_option Elab.async false
set_option linter.all false
set_option maxRecDepth 100000
set_option maxHeartbeats 1000000
namespace L2
open PySem
section
variable {rs : List Str} {n : Nat} (hrs : ∀ x ∈ rs, Row n x)
include hrs
end
end L2
set_option Elab.async false
set_option linter.all false
set_option maxRecDepth 100000
set_option maxHeartbeats 4000000
namespace L2
open PySem PySem.Spec PyProof.Rows
section
variable {X : Cx} {elt iter tg : Expr} {ifs : List Expr} {rest : List Comprehension} {scope : Scope} {pos : Pos} {N' : List Str} {fm : List (Option Nat)} {wi : TI} {g : TG} {tt : TT} {tb : Addr → TBd}
end
end L2
set_option Elab.async false
set_option linter.all false
set_option maxRecDepth 100000
set_option maxHeartbeats 4000000
namespace PySem
open Sem (wp)
section
variable {prog : Program} {w : World} {K : Type} [DecidableEq K] {knd : KeyKind prog w K} {A : Around} {R : Result → Shared → Prop} {I : Addr} {fp wr : List Addr} {G : Array GenState → Array GenState → Prop} {n : Nat} {P : Nat → Value → Prop} {St : Nat → Shared → Prop}
end
section
variable {prog : Program} {w : World} {K : Type} [DecidableEq K] {knd : KeyKind prog w K} {A : Around} {E : Value → Shared → Prop} {s : Shared}
end
end PySem
set_option Elab.async false
set_option linter.all false
set_option maxRecDepth 100000
set_option maxHeartbeats 2000000
namespace L2
open PySem PySem.Spec PyProof.Rows
section
variable {X : Cx}
end
end L2
set_option Elab.async false
set_option linter.all false
set_option maxRecDepth 100000
set_option maxHeartbeats 4000000
namespace L2
open PySem PySem.Spec PyProof.Rows
section
variable {P : Program} {w : World} {K : PySem.W.Frag}
end
section
variable {X : Cx}
end
section
variable {K : PySem.W.Frag} {a : Addr} {xs : List V}
end
end L2
set_option Elab.async false
set_option linter.all false
set_option maxRecDepth 100000
set_option maxHeartbeats 1000000
namespace L2
open PySem
structure Buns (H0 : Hp) (p : Addr) (H : Hp) (bl : List (List (Nat × Nat))) : Prop where
  same : Same H0 H
  fr : H0 p = none
  at_ : ∃ bs : List Addr, H p = some (.lst (bs.map V.ref)) ∧ bs.length = bl.length ∧ (∀ b ∈ bs, b ≠ p ∧ H0 b = none) ∧ ∀ (i : Nat) (b : Addr) (ks : List (Nat × Nat)), bs[i]? = some b → bl[i]? = some ks → ∃ as : List Addr, H b = some (.lst (as.map V.ref)) ∧ Tups H as (ks.map skP)
theorem Buns.mono {H0 H H1 : Hp} {p : Addr} {bl : List (List (Nat × Nat))} (B : Buns H0 p H bl) (s : Same H H1) : Buns H0 p H1 bl := by
  obtain ⟨bs, e, l, f, g⟩ := B.at_
  exact ⟨B.same.trans' s, B.fr, bs, s _ _ e, l, f, fun i b ks h1 h2 => let ⟨as, e1, t1⟩ := g i b ks h1 h2; ⟨as, s _ _ e1, t1.mono s⟩⟩
theorem Buns.back {H0 H1 H : Hp} {p : Addr} {bl : List (List (Nat × Nat))} (B : Buns H1 p H bl) (s : Same H0 H1) : Buns H0 p H bl := by
  have nb : ∀ {q : Addr}, H1 q = none → H0 q = none := fun {q} h => by
    cases z : H0 q with
    | none => rfl
    | some o => rw [s _ _ z] at h; cases h
  obtain ⟨bs, e, l, f, g⟩ := B.at_
  exact ⟨s.trans' B.same, nb B.fr, bs, e, l, fun b hb => ⟨(f b hb).1, nb (f b hb).2⟩, g⟩
theorem Buns.put {H0 H H1 : Hp} {p b : Addr} {bl : List (List (Nat × Nat))} {ks : List (Nat × Nat)} (B : Buns H0 p H bl) (hb : H b = none) (A : Acc H b H1 (ks.map skP)) :
    ∃ bs : List Addr, H1 p = some (.lst (bs.map V.ref)) ∧ bs.length = bl.length ∧ Buns H0 p (upd H1 p (.lst (bs.map V.ref ++ [.ref b]))) (bl ++ [ks]) := by
  obtain ⟨bs, e, l, f, g⟩ := B.at_
  have e1 := A.same _ _ e
  have bp : b ≠ p := fun z => by rw [z, e] at hb; cases hb
  have b0 : H0 b = none := by
    cases z : H0 b with
    | none => rfl
    | some o => rw [B.same _ _ z] at hb; cases hb
  refine ⟨bs, e1, l, fun c o z => ?_, B.fr, bs ++ [b], by rw [upd_same, List.map_append]; rfl, by rw [List.length_append, List.length_append, l]; rfl, fun c hc => ?_, fun i c ks' h1 h2 => ?_⟩
  · rw [upd_ne (fun w => by rw [w, B.fr] at z; cases z)]
    exact A.same _ _ (B.same _ _ z)
  · rcases List.mem_append.mp hc with hc | hc
    · exact f c hc
    · rw [List.mem_singleton.mp hc]; exact ⟨bp, b0⟩
  · by_cases il : i < bs.length
    · rw [List.getElem?_append_left il] at h1
      rw [List.getElem?_append_left (by omega)] at h2
      obtain ⟨as, e2, t2⟩ := g i c ks' h1 h2
      refine ⟨as, ?_, (t2.mono A.same).upd e1⟩
      rw [upd_ne (f c (List.mem_of_getElem? h1)).1]
      exact A.same _ _ e2
    · have ie : i = bs.length := by
        have := (List.getElem?_eq_some_iff.mp h1).1
        rw [List.length_append] at this
        have : [b].length = 1 := rfl
        omega
      subst ie
      rw [List.getElem?_append_right (Nat.le_refl _), Nat.sub_self] at h1
      rw [l, List.getElem?_append_right (Nat.le_refl _), Nat.sub_self] at h2
      cases h1
      cases h2
      obtain ⟨as, e2, t2⟩ := A.at_
      refine ⟨as, ?_, t2.upd e1⟩
      rw [upd_ne bp]
      exact e2
theorem valV_some_iff {κ : Type} [DecidableEq κ] {kvs : List (κ × V)} {k : κ} : (valV kvs k).isSome = true ↔ k ∈ kvs.map (·.1) := by
  constructor
  · intro h
    obtain ⟨v, e⟩ := Option.isSome_iff_exists.mp h
    exact valV_in e
  · intro h
    cases z : valV kvs k with
    | some _ => rfl
    | none => exact absurd h (valV_not z)
end L2
set_option Elab.async false
set_option linter.all false
set_option maxRecDepth 100000
set_option maxHeartbeats 1000000
namespace L2
open PySem
theorem skP_inj {p p' : An} (h : skP p = skP p') : p = p' := by
  obtain ⟨q, a⟩ := p
  obtain ⟨r, b⟩ := p'
  unfold skP sk at h
  simp at h
  obtain ⟨h1, h2⟩ := h
  have h1 : q = r := by omega
  subst h1
  subst h2
  rfl
theorem val_memT {kvs : List (List Key × V)} {j : Nat} {k : List Key} {v : V} (h : kvs[j]? = some (k, v)) : (valV kvs k).isSome = true := valV_some_iff.mpr (List.mem_map.mpr ⟨_, List.mem_of_getElem? h, rfl⟩)
theorem Tups.unsnoc {H : Hp} {fs : List Addr} {ks : List (List Key)} {k : List Key} (t : Tups H fs (ks ++ [k])) : ∃ fs0 r, fs = fs0 ++ [r] ∧ Tups H fs0 ks ∧ H r = some (.tup (k.map kV)) := by
  have l := t.1
  rw [List.length_append] at l
  have l : fs.length = ks.length + 1 := l
  rcases List.eq_nil_or_concat fs with e | ⟨fs0, r, e⟩
  · rw [e] at l; cases l
  rw [List.concat_eq_append] at e
  subst e
  rw [List.length_append] at l
  have l : fs0.length = ks.length := by simpa using l
  refine ⟨fs0, r, rfl, ⟨l, fun i r' k' a b => ?_⟩, t.2 ks.length r k (by rw [← l]; simp) (by simp)⟩
  have il := (List.getElem?_eq_some_iff.mp a).1
  exact t.2 i r' k' (by rw [List.getElem?_append_left il]; exact a) (by rw [List.getElem?_append_left (by omega)]; exact b)
def EV (es : List (An × An)) (p q : An) : Prop := (p, q) ∈ es
def LedV (H : Hp) (kvs : List (List Key × V)) (es : List (An × An)) : Prop := ∀ p : An, (valV kvs (skP p) = none ∧ ∀ q, ¬ EV es p q) ∨ ∃ (l : Addr) (rs : List Addr) (qs : List An), valV kvs (skP p) = some (.ref l) ∧ H l = some (.lst (rs.map V.ref)) ∧ Tups H rs (qs.map skP) ∧ qs.length ≤ es.length ∧ ∀ q, q ∈ qs ↔ EV es p q
theorem LedV.mono {H H' : Hp} {kvs : List (List Key × V)} {es : List (An × An)} (h : LedV H kvs es) (s : Same H H') : LedV H' kvs es := fun p => by
  rcases h p with h | ⟨l, rs, qs, h1, h2, h3, h4⟩
  · exact .inl h
  · exact .inr ⟨l, rs, qs, h1, s _ _ h2, h3.mono s, h4⟩
theorem LedV.nil {H : Hp} : LedV H [] [] := fun p => .inl ⟨rfl, fun q h => by cases h⟩
theorem LedV.put {H H' : Hp} {td l2 : Addr} {kvs : List (List Key × V)} {es : List (An × An)} {p q : An} {rs : List Addr} {qs : List An} (h : LedV H kvs es) (et : H td = some (.dT kvs)) (el : H l2 = some (.lst (rs.map V.ref))) (t : Tups H rs ((qs ++ [q]).map skP)) (hm : ∀ q', q' ∈ qs ↔ EV es p q') (hl : qs.length ≤ es.length) (hk : ∀ b, b ≠ td → H' b = H b) : LedV H' (putK kvs (skP p) (.ref l2)) (es ++ [(p, q)]) := fun u => by
  have nt' : ∀ xs, H td ≠ some (.tup xs) := fun xs w => by rw [et] at w; cases w
  have nl : ∀ {l : Addr} {xs : List V}, H l = some (.lst xs) → H' l = some (.lst xs) := fun e => by rw [hk _ (fun w => by rw [w, et] at e; cases e)]; exact e
  rw [valV_put]
  by_cases c : u = p
  · subst c
    rw [if_pos rfl]
    refine .inr ⟨l2, rs, qs ++ [q], rfl, nl el, t.but nt' hk, by rw [List.length_append, List.length_append]; exact Nat.add_le_add_right hl 1, fun q' => ?_⟩
    unfold EV
    rw [List.mem_append, List.mem_append, List.mem_singleton, List.mem_singleton]
    constructor
    · rintro (a | a)
      · exact .inl ((hm q').mp a)
      · exact .inr (by rw [a])
    · rintro (a | a)
      · exact .inl ((hm q').mpr a)
      · exact .inr (Prod.mk.inj a).2
  · rw [if_neg (fun w => c (skP_inj w))]
    have ne : ∀ q', EV (es ++ [(p, q)]) u q' ↔ EV es u q' := fun q' => by
      unfold EV
      rw [List.mem_append, List.mem_singleton]
      exact ⟨fun a => a.resolve_right fun w => c (Prod.mk.inj w).1, .inl⟩
    rcases h u with ⟨h1, h2⟩ | ⟨l, rs', qs', h1, h2, h3, h4, h5⟩
    · exact .inl ⟨h1, fun q' w => h2 q' ((ne q').mp w)⟩
    · exact .inr ⟨l, rs', qs', h1, nl h2, h3.but nt' hk, by rw [List.length_append]; omega, fun q' => (h5 q').trans (ne q').symm⟩
theorem Same.none {H H' : Hp} {b : Addr} (s : Same H H') (h : H' b = none) : H b = none := by
  cases z : H b with
  | none => rfl
  | some o => rw [s _ _ z] at h; cases h
def WV (H0 H : Hp) (E : An → An → Prop) (st : An) (kvs : List (List Key × V)) : Prop := ∀ k v, valV kvs k = some v → ∃ (p : An) (l : Addr) (rs : List Addr) (ws : List An), k = skP p ∧ v = .ref l ∧ H0 l = none ∧ H l = some (.lst (rs.map V.ref)) ∧ Tups H rs (ws.map skP) ∧ Wk E st p ws ∧ ws.length ≤ kvs.length
theorem WV.at {H0 H : Hp} {E : An → An → Prop} {st p : An} {kvs : List (List Key × V)} {v : V} (h : WV H0 H E st kvs) (e : valV kvs (skP p) = some v) : ∃ (l : Addr) (rs : List Addr) (ws : List An), v = .ref l ∧ H0 l = none ∧ H l = some (.lst (rs.map V.ref)) ∧ Tups H rs (ws.map skP) ∧ Wk E st p ws ∧ ws.length ≤ kvs.length := by
  obtain ⟨p', l, rs, ws, e1, r⟩ := h _ _ e
  rw [skP_inj e1]
  exact ⟨l, rs, ws, r⟩
theorem WV.mono {H0 H H' : Hp} {E : An → An → Prop} {st : An} {kvs : List (List Key × V)} (h : WV H0 H E st kvs) (s : Same H H') : WV H0 H' E st kvs := fun k v e => by
  obtain ⟨p, l, rs, ws, h1, h2, h0, h3, h4, h5⟩ := h k v e
  exact ⟨p, l, rs, ws, h1, h2, h0, s _ _ h3, h4.mono s, h5⟩
theorem put_len1 {kvs : List (List Key × V)} {k : List Key} {v : V} (h : valV kvs k = none) : (putK kvs k v).length = kvs.length + 1 := by
  unfold putK
  split
  · rename_i c
    obtain ⟨kv, m, e⟩ := List.any_eq_true.mp c
    have : (valV kvs k).isSome = true := valV_some_iff.mpr (List.mem_map.mpr ⟨kv, m, of_decide_eq_true e⟩)
    rw [h] at this
    cases this
  · rw [List.length_append]; rfl
theorem WV.put {H0 H H' : Hp} {E : An → An → Prop} {st p : An} {td l2 : Addr} {kvs : List (List Key × V)} {rs : List Addr} {ws : List An} (h : WV H0 H E st kvs) (et : H td = some (.dT kvs)) (n0 : valV kvs (skP p) = none) (f0 : H0 l2 = none) (el : H l2 = some (.lst (rs.map V.ref))) (t : Tups H rs (ws.map skP)) (wk : Wk E st p ws) (wl : ws.length ≤ kvs.length + 1) (hk : ∀ b, b ≠ td → H' b = H b) : WV H0 H' E st (putK kvs (skP p) (.ref l2)) := fun k v e => by
  have nt' : ∀ xs, H td ≠ some (.tup xs) := fun xs w => by rw [et] at w; cases w
  have nl : ∀ {l : Addr} {xs : List V}, H l = some (.lst xs) → H' l = some (.lst xs) := fun e => by rw [hk _ (fun w => by rw [w, et] at e; cases e)]; exact e
  rw [valV_put] at e
  rw [put_len1 n0]
  by_cases c : k = skP p
  · rw [if_pos c] at e
    cases e
    exact ⟨p, l2, rs, ws, c, rfl, f0, nl el, t.but nt' hk, wk, wl⟩
  · rw [if_neg c] at e
    obtain ⟨p', l, rs', ws', h1, h2, h0, h3, h4, h5, h6⟩ := h k v e
    exact ⟨p', l, rs', ws', h1, h2, h0, nl h3, h4.but nt' hk, h5, by omega⟩
theorem WV.lst {H0 H : Hp} {E : An → An → Prop} {st : An} {kvs : List (List Key × V)} {fr : Addr} {xs ys : List V} (h : WV H0 H E st kvs) (ef : H fr = some (.lst xs)) (nf : ∀ k, valV kvs k ≠ some (.ref fr)) : WV H0 (upd H fr (.lst ys)) E st kvs := fun k v e => by
  obtain ⟨p, l, rs, ws, h1, h2, h0, h3, h4, h5⟩ := h k v e
  refine ⟨p, l, rs, ws, h1, h2, h0, ?_, h4.upd ef, h5⟩
  rw [upd_ne]
  · exact h3
  · intro w
    rw [h2, w] at e
    exact nf k e
def univ (n : Nat) : List An := (List.range n).flatMap fun q => [(q, 121), (q, 110)]
theorem univ_len (n : Nat) : (univ n).length = 2 * n := by
  induction n with
  | zero => rfl
  | succ n ih =>
    unfold univ at ih ⊢
    rw [List.range_succ, List.flatMap_append, List.length_append, ih]
    simp
    omega
theorem mem_univ {n : Nat} {p : An} (h : Ok n p) : p ∈ univ n := by
  refine List.mem_flatMap.mpr ⟨p.1, List.mem_range.mpr h.1, ?_⟩
  obtain ⟨q, s⟩ := p
  rcases h.2 with e | e
  · simp at e; subst e; simp
  · simp at e; subst e; simp
def unseen (n : Nat) (kvs : List (List Key × V)) : Nat := ((univ n).filter fun p => !(valV kvs (skP p)).isSome).length
theorem unseen_le (n : Nat) (kvs : List (List Key × V)) : unseen n kvs ≤ 2 * n := by
  rw [← univ_len]; exact List.length_filter_le _ _
theorem unseen_put {n : Nat} {kvs : List (List Key × V)} {p : An} {v : V} (h : Ok n p) (n0 : valV kvs (skP p) = none) : unseen n (putK kvs (skP p) v) < unseen n kvs := by
  unfold unseen
  have e : ((univ n).filter fun u => !(valV (putK kvs (skP p) v) (skP u)).isSome) = ((univ n).filter fun u => !(valV kvs (skP u)).isSome).filter fun u => !(valV (putK kvs (skP p) v) (skP u)).isSome := by
    rw [List.filter_filter]
    congr 1
    funext u
    rw [valV_put]
    by_cases c : skP u = skP p
    · rw [if_pos c]; rfl
    · rw [if_neg c]; simp
  rw [e]
  refine List.length_filter_lt_length_iff_exists.mpr ⟨p, List.mem_filter.mpr ⟨mem_univ h, by rw [n0]; rfl⟩, ?_⟩
  rw [valV_put, if_pos rfl]
  exact Bool.false_ne_true
end L2
set_option Elab.async false
set_option linter.all false
set_option maxRecDepth 100000
set_option maxHeartbeats 1000000
namespace L2
open PySem PySem.Spec PyProof.Rows
section
variable {X : Cx}
end
end L2
set_option Elab.async false
set_option linter.all false
set_option maxRecDepth 100000
set_option maxHeartbeats 1000000
namespace K28
open PySem L2
open PyProof.Rows (envOfC)
abbrev s_oside : Stmt := top 28
abbrev s_coaths : Stmt := top 26
abbrev s_links : Stmt := top 29
abbrev s_walks : Stmt := top 30
def vE (v : Vow) : List (An × An) := [((v.q, v.a), (v.r, v.b)), ((v.r, nt v.b), (v.q, nt v.a))]
def esV (vo : List Vow) : List (An × An) := vo.flatMap vE
def VSg (vo : List Vow) : Prop := ∀ v ∈ vo, (v.a = 121 ∨ v.a = 110) ∧ (v.b = 121 ∨ v.b = 110)
def VIn (n : Nat) (vo : List Vow) : Prop := ∀ v ∈ vo, v.q < n ∧ v.r < n
theorem esV_len (vo : List Vow) : (esV vo).length = 2 * vo.length := by
  unfold esV
  induction vo with
  | nil => rfl
  | cons v vo ih => rw [List.flatMap_cons, List.length_append, ih, List.length_cons]; show 2 + _ = _; omega
theorem mem_esV {vo : List Vow} {p q : An} : EV (esV vo) p q ↔ ∃ v ∈ vo, (p = (v.q, v.a) ∧ q = (v.r, v.b)) ∨ (p = (v.r, nt v.b) ∧ q = (v.q, nt v.a)) := by
  unfold EV esV
  rw [List.mem_flatMap]
  constructor
  · rintro ⟨v, hv, h⟩
    refine ⟨v, hv, ?_⟩
    rcases List.mem_cons.mp h with h | h
    · exact .inl (Prod.mk.inj h)
    · exact .inr (Prod.mk.inj (List.mem_singleton.mp h))
  · rintro ⟨v, hv, ⟨rfl, rfl⟩ | ⟨rfl, rfl⟩⟩
    · exact ⟨v, hv, List.mem_cons_self⟩
    · exact ⟨v, hv, List.mem_cons_of_mem _ List.mem_cons_self⟩
theorem gr_esV {n : Nat} {vo : List Vow} (hs : VSg vo) (hi : VIn n vo) : Gr n (EV (esV vo)) := by
  refine ⟨fun {p q} h => ?_, fun {p q} h => ?_, fun {p q} h => ?_⟩
  · obtain ⟨v, hv, ⟨rfl, rfl⟩ | ⟨rfl, rfl⟩⟩ := mem_esV.mp h
    · exact mem_esV.mpr ⟨v, hv, .inr ⟨rfl, rfl⟩⟩
    · refine mem_esV.mpr ⟨v, hv, .inl ⟨?_, ?_⟩⟩
      · show (v.q, nt (nt v.a)) = _
        rw [nt_nt (hs v hv).1]
      · show (v.r, nt (nt v.b)) = _
        rw [nt_nt (hs v hv).2]
  · obtain ⟨v, hv, ⟨rfl, rfl⟩ | ⟨rfl, rfl⟩⟩ := mem_esV.mp h
    · exact ⟨(hi v hv).1, (hs v hv).1⟩
    · exact ⟨(hi v hv).2, nt_sg _⟩
  · obtain ⟨v, hv, ⟨rfl, rfl⟩ | ⟨rfl, rfl⟩⟩ := mem_esV.mp h
    · exact ⟨(hi v hv).2, (hs v hv).2⟩
    · exact ⟨(hi v hv).1, nt_sg _⟩
theorem Vows.inn {K : PySem.W.Frag} {H : Hp} {n : Nat} {rs : List Addr} {vo : List Vow} (h : Vows K H n rs vo) : VIn n vo := fun v hv => by
  obtain ⟨i, hi⟩ := List.mem_iff_getElem?.mp hv
  have il := (List.getElem?_eq_some_iff.mp hi).1
  exact (h.2 i _ v (List.getElem?_eq_getElem (by rw [h.1]; exact il)) hi).2
section
variable {P : Program} {w : World} {K : PySem.W.Frag} {mg : Str → Option Value} {base : Heap}
def spOside (K : PySem.W.Frag) : Sp := fun vs H Q _ => ∃ (o : Addr) (v : Vow), vs = [.ref o] ∧ SqT K H o v.vals ∧ Sign v.a ∧ Sign v.b ∧ ∀ T H', Same H H' → H' T = some (.tup [.int v.r, s1 (nt v.b), .int v.q, s1 (nt v.a)]) → Q (.ref T) H'
abbrev N_os : List Str := ["oath", "q", "a", "r", "b"]
abbrev P_os : List Str := ["oath"]
theorem sc_os : FnScope N_os P_os (defScope s_oside) := ⟨rfl, rfl, rfl, by decide +kernel, rfl, by decide +kernel, by decide +kernel⟩
theorem ok_oside {f fo fs : Addr} {fd go gs : FuncData} (D : Df K mg "other_side" s_oside P_os f fd) (Do : Df K mg "other" s_other P_ot fo go) (Ds : Df K mg "check_sign" s_csign ["sign"] fs gs) : FnOk P w K mg base (CXE P w) 3 f fd P_os (spOside K) := by
  refine D.F.okN sc_os (fun vs H Q E h => ?_) (fun cdv A outer s H vs Q E hr h => ?_)
  · obtain ⟨o, v, rfl, _⟩ := h
    rfl
  · obtain ⟨o, v, rfl, ho, sa, sb, k⟩ := h
    have hu : (A.deeper (envOfC "other_side" (defScope s_oside) s.heap.objs.size f cdv)).units < cLine := by have := hr.units; omega
    refine ⟨_, pss_cons (ps_asg (pv 0) (pg_tup rfl (pgs_cons (pg_name (i := 1) sc_os.nd rfl (Or.inl rfl)) (pgs_cons (pg_name (i := 2) sc_os.nd rfl (Or.inl rfl)) (pgs_cons (pg_name (i := 3) sc_os.nd rfl (Or.inl rfl)) (pgs_cons (pg_name (i := 4) sc_os.nd rfl (Or.inl rfl)) pgs_nil))))))
      (pss_one (ps_ret (pe_tup (pa_cons (pv 3) (pa_cons (pe_fn Do (ok_other Do Ds) (hr.mono (by decide)) passN (pa_cons (pv 4) pa_nil)) (pa_cons (pv 1) (pa_cons (pe_fn Do (ok_other Do Ds) (hr.mono (by decide)) passN (pa_cons (pv 2) pa_nil)) pa_nil))))))), ?_⟩
    refine ⟨_, rfl, o, _, rfl, ho, rfl, _, _, rfl, _, _, rfl, _, _, rfl, _, _, rfl, rfl, ?_⟩
    exact ⟨_, rfl, _, rfl, v.b, rfl, sb, _, rfl, _, rfl, v.a, rfl, sa, len_le (show 4 ≤ 100 by decide), fun T hT => k T _ (Same.new hT) upd_same⟩
abbrev P_co : List Str := ["questions", "oaths"]
def spLinks (K : PySem.W.Frag) : Sp := fun vs H Q _ => ∃ (l : Addr) (n : Nat) (rs : List Addr) (vo : List Vow), vs = [.ref l] ∧ SqL K H l (rs.map V.ref) ∧ Vows K H n rs vo ∧ VSg vo ∧ rs.length ≤ 100 ∧ ∀ td H' kvs, Same H H' → H td = none → H' td = some (.dT kvs) → LedV H' kvs (esV vo) → Q (.ref td) H'
abbrev N_li : List Str := ["oaths", "told", "oath", "q", "a", "r", "b"]
abbrev P_li : List Str := ["oaths"]
theorem sc_li : FnScope N_li P_li (defScope s_links) := ⟨rfl, rfl, rfl, by decide +kernel, rfl, by decide +kernel, by decide +kernel⟩
theorem ok_links {f fo : Addr} {fd go : FuncData} (D : Df K mg "links" s_links P_li f fd) (Do : Df K mg "other_side" s_oside P_os fo go) (Go : FnOk P w K mg base (CXE P w) 3 fo go P_os (spOside K)) : FnOk P w K mg base (CXE P w) 4 f fd P_li (spLinks K) := by
  refine D.F.okN sc_li (fun vs H Q E h => ?_) (fun cdv A outer s H vs Q E hr h => ?_)
  · obtain ⟨l, n, rs, vo, rfl, _⟩ := h
    rfl
  · obtain ⟨l, n, rs, vo, rfl, hl, hv, sg, l100, k⟩ := h
    have hu : (A.deeper (envOfC "links" (defScope s_links) s.heap.objs.size f cdv)).units + 1 < cLine := by have := hr.units; omega
    refine ⟨_, pss_cons (ps_set (i := 1) sc_li.nd rfl (Or.inl rfl) pe_dnewT)
      (pss_cons (ps_for PassesOwn.never rfl (pi_list (pv 0)) (pg_name (i := 2) sc_li.nd rfl (Or.inl rfl))
      (pss_one (ps_for PassesOwn.never rfl (pi_tup (pe_tup (pa_cons (pv 2) (pa_cons (pe_fn Do Go (hr.mono (by decide)) passN (pa_cons (pv 2) pa_nil)) pa_nil)))) (pg_tup rfl (pgs_cons (pg_name (i := 3) sc_li.nd rfl (Or.inl rfl)) (pgs_cons (pg_name (i := 4) sc_li.nd rfl (Or.inl rfl)) (pgs_cons (pg_name (i := 5) sc_li.nd rfl (Or.inl rfl)) (pgs_cons (pg_name (i := 6) sc_li.nd rfl (Or.inl rfl)) pgs_nil)))))
      (pss_one (ps_dput hu (pv 1) (pe_tup (pa_cons (pv 3) (pa_cons (pv 4) pa_nil))) (pe_op op_cat (pe_dget2 hu (pv 1) (pe_tup (pa_cons (pv 3) (pa_cons (pv 4) pa_nil))) (pe_lst pa_nil) ⟨rfl, rfl, rfl, rfl⟩) (pe_lst (pa_cons (pe_tup (pa_cons (pv 5) (pa_cons (pv 6) pa_nil))) pa_nil))) rfl)))))
      (pss_one (ps_ret (pv 1)))), ?_⟩
    intro td htd
    have s0 : Same H (upd H td (.dT [])) := Same.new htd
    refine ⟨_, rfl, l, rfl, ⟨_, s0.seq hl⟩, ?_⟩
    refine for_list (K := K) (a := l) (xs := rs.map V.ref) (fun i σ H2 => ∃ (kvs : List (List Key × V)) (v2 v3 v4 v5 v6 : Option V), σ = [some (.ref l), some (.ref td), v2, v3, v4, v5, v6] ∧ Same H H2 ∧ H2 td = some (.dT kvs) ∧ LedV H2 kvs (esV (vo.take i)) ∧ kvs.length ≤ 2 * i) ⟨[], _, _, _, _, _, rfl, s0, upd_same, LedV.nil, Nat.zero_le _⟩ (fun i σ H2 _ ⟨_, _, _, _, _, _, _, s2, _⟩ => s2.seq hl) ?_ ?_
    · rintro i y σ H2 hi ⟨kvs, v2, v3, v4, v5, v6, rfl, s2, e2, led, kl⟩
      have il : i < rs.length := by rw [← List.length_map (f := V.ref)]; exact (List.getElem?_eq_some_iff.mp hi).1
      obtain ⟨r, v, rfl, hv', ho, hq, hr'⟩ := hv.at hi
      have sv := sg v (List.mem_of_getElem? hv')
      have et : esV (vo.take (i + 1)) = esV (vo.take i) ++ vE v := by
        unfold esV
        rw [List.take_add_one, hv', List.flatMap_append]
        show _ ++ ([v].flatMap vE) = _
        rw [List.flatMap_singleton]
      refine ⟨_, rfl, _, rfl, r, v, rfl, s2.seqT ho, sv.1, sv.2, fun T H3 s3 eT => ⟨len_le (show 2 ≤ 100 by decide), fun T2 hT2 => ?_⟩⟩
      have s4 := Same.new (o := .tup [.ref r, .ref T]) hT2
      have s24 := s3.trans' s4
      refine ⟨T2, rfl, ⟨_, SqT.of upd_same⟩, ?_⟩
      have e4 := s24 _ _ e2
      have led4 := led.mono s24
      have eT4 := s4 _ _ eT
      have eT2 : upd H3 T2 (.tup [.ref r, .ref T]) T2 = some (.tup [.ref r, .ref T]) := upd_same
      have s04 := s2.trans' s24
      generalize upd H3 T2 (.tup [.ref r, .ref T]) = H4 at *
      refine for_tup (K := K) (a := T2) (xs := [.ref r, .ref T]) (fun j σ H5 => ∃ (kvs : List (List Key × V)) (v3 v4 v5 v6 : Option V), σ = [some (.ref l), some (.ref td), some (.ref r), v3, v4, v5, v6] ∧ Same H H5 ∧ H5 T2 = some (.tup [.ref r, .ref T]) ∧ H5 T = some (.tup [.int v.r, s1 (nt v.b), .int v.q, s1 (nt v.a)]) ∧ H5 td = some (.dT kvs) ∧ LedV H5 kvs (esV (vo.take i) ++ (vE v).take j) ∧ kvs.length ≤ 2 * i + j) ⟨kvs, _, _, _, _, rfl, s04, eT2, eT4, e4, by rw [List.take_zero, List.append_nil]; exact led4, by omega⟩ (fun j σ H5 _ ⟨_, _, _, _, _, _, _, e5, _⟩ => SqT.of e5) ?_ ?_
      · rintro j y σ H5 hj ⟨kvs5, w3, w4, w5, w6, rfl, s5, eT2, eT5, e5, led5, kl5⟩
        obtain ⟨a, p, p', rfl, ha, tk, jl⟩ : ∃ (a : Addr) (p p' : An), y = .ref a ∧ SqT K H5 a [.int p.1, s1 p.2, .int p'.1, s1 p'.2] ∧ (vE v).take (j + 1) = (vE v).take j ++ [(p, p')] ∧ j < 2 := by
          match j, hj with
          | 0, hj => cases hj; exact ⟨r, (v.q, v.a), (v.r, v.b), rfl, s5.seqT ho, rfl, by decide⟩
          | 1, hj => cases hj; exact ⟨T, (v.r, nt v.b), (v.q, nt v.a), rfl, SqT.of eT5, rfl, by decide⟩
          | j + 2, hj => cases hj
        refine ⟨a, _, rfl, ha, rfl, _, _, rfl, _, _, rfl, _, _, rfl, _, _, rfl, rfl, ?_⟩
        refine ⟨_, rfl, td, rfl, .inr ⟨_, .inl e5⟩, _, rfl, _, rfl, len_le (show 2 ≤ 100 by decide), fun K1 hK1 => ⟨len_le (show 0 ≤ 100 by decide), fun L0 hL0 => ?_⟩⟩
        have sK1 := Same.new (o := .tup [.int p.1, s1 p.2]) hK1
        have sL0 := Same.new (o := .lst []) hL0
        have s6 := s5.trans' (sK1.trans' sL0)
        have e6 := (sK1.trans' sL0) _ _ e5
        have led6 := led5.mono (sK1.trans' sL0)
        have eK1 := sL0 _ _ (show upd H5 K1 (.tup [.int p.1, s1 p.2]) K1 = some (.tup ((skP p).map kV)) from upd_same)
        have eL0 : upd (upd H5 K1 (.tup [.int p.1, s1 p.2])) L0 (.lst []) L0 = some (.lst []) := upd_same
        have eT6 := (sK1.trans' sL0) _ _ eT5
        have e26 := (sK1.trans' sL0) _ _ eT2
        refine ⟨_, DGet.t e6 eK1, ?_⟩
        generalize upd (upd H5 K1 (.tup [.int p.1, s1 p.2])) L0 (.lst []) = H6 at *
        obtain ⟨l1, rs1, qs1, ev, el1, t1, hm1, ll1⟩ : ∃ (l1 : Addr) (rs1 : List Addr) (qs1 : List An), (valV kvs5 (skP p)).getD (.ref L0) = .ref l1 ∧ H6 l1 = some (.lst (rs1.map V.ref)) ∧ Tups H6 rs1 (qs1.map skP) ∧ (∀ q', q' ∈ qs1 ↔ EV (esV (vo.take i) ++ (vE v).take j) p q') ∧ qs1.length ≤ (esV (vo.take i) ++ (vE v).take j).length := by
          rcases led6 p with ⟨h1, h2⟩ | ⟨l', rs', qs', h1, h2, h3, h4, h5⟩
          · exact ⟨L0, [], [], by rw [h1]; rfl, eL0, Tups.nil, (fun q' => ⟨(fun h => by cases h), fun h => absurd h (h2 q')⟩), Nat.zero_le _⟩
          · exact ⟨l', rs', qs', by rw [h1]; rfl, h2, h3, h5, h4⟩
        rw [ev]
        have lq : qs1.length ≤ 202 := by
          have := esV_len (vo.take i)
          have hvl := hv.1
          rw [List.length_append, this, List.length_take, List.length_take] at ll1
          have : (vE v).length = 2 := rfl
          omega
        refine ⟨_, rfl, _, rfl, len_le (show 2 ≤ 100 by decide), fun K2 hK2 => ⟨len_le (show 1 ≤ 100 by decide), fun L1 hL1 => ?_⟩⟩
        have sK2 := Same.new (o := .tup [.int p'.1, s1 p'.2]) hK2
        have sL1 := Same.new (o := .lst [.ref K2]) hL1
        have s67 := sK2.trans' sL1
        refine ⟨l1, L1, _, _, rfl, rfl, s67 _ _ el1, upd_same, ?_, fun L2 hL2 => ?_⟩
        · rw [List.length_map, t1.1, List.length_map, sizeLine_eq]
          show qs1.length + 1 ≤ _
          omega
        have sL2 := Same.new (o := .lst (rs1.map V.ref ++ [.ref K2])) hL2
        have s68 := s67.trans' sL2
        have eK2 := sL2 _ _ (sL1 _ _ (show upd H6 K2 (.tup [.int p'.1, s1 p'.2]) K2 = some (.tup ((skP p').map kV)) from upd_same))
        have eL2 : upd (upd (upd H6 K2 (.tup [.int p'.1, s1 p'.2])) L1 (.lst [.ref K2])) L2 (.lst (rs1.map V.ref ++ [.ref K2])) L2 = some (.lst ((rs1 ++ [K2]).map V.ref)) := by rw [upd_same, List.map_append]; rfl
        refine ⟨_, rfl, _, rfl, _, rfl, len_le (show 2 ≤ 100 by decide), fun K3 hK3 => ?_⟩
        have sK3 := Same.new (o := .tup [.int p.1, s1 p.2]) hK3
        have s69 := s68.trans' sK3
        have e9 := s69 _ _ e6
        have led9 := led6.mono s69
        have t9 := (t1.mono s69).snoc (sK3 _ _ eK2)
        have eL9 := sK3 _ _ eL2
        have s09 := s6.trans' s69
        have eT9 := s69 _ _ eT6
        have e29 := s69 _ _ e26
        have eK9 : upd (upd (upd (upd H6 K2 (.tup [.int p'.1, s1 p'.2])) L1 (.lst [.ref K2])) L2 (.lst (rs1.map V.ref ++ [.ref K2]))) K3 (.tup [.int p.1, s1 p.2]) K3 = some (.tup ((skP p).map kV)) := upd_same
        refine ⟨td, _, rfl, DPut.t e9 eK9 ?_, ?_⟩
        · exact Nat.lt_of_le_of_lt (show kvs5.length ≤ 300 by omega) (by rw [sizeLine_eq]; decide)
        generalize upd (upd (upd (upd H6 K2 (.tup [.int p'.1, s1 p'.2])) L1 (.lst [.ref K2])) L2 (.lst (rs1.map V.ref ++ [.ref K2]))) K3 (.tup [.int p.1, s1 p.2]) = H9 at *
        have kk : ∀ b, b ≠ td → upd H9 td (.dT (putK kvs5 (skP p) (.ref L2))) b = H9 b := fun b nb => upd_ne nb
        have pl := put_len kvs5 (skP p) (.ref L2)
        refine ⟨_, _, _, _, _, rfl, s09.but htd kk, ?_, ?_, upd_same, ?_, by omega⟩
        · rw [kk _ (fun w => by rw [w, e9] at e29; cases e29)]; exact e29
        · rw [kk _ (fun w => by rw [w, e9] at eT9; cases eT9)]; exact eT9
        · rw [tk, ← List.append_assoc]
          rw [show ∀ (x : List An), x.map skP ++ [skP p'] = (x ++ [p']).map skP from fun x => by rw [List.map_append]; rfl] at t9
          exact led9.put e9 eL9 t9 hm1 ll1 kk
      · rintro σ H5 ⟨kvs5, w3, w4, w5, w6, rfl, s5, eT2, eT5, e5, led5, kl5⟩
        refine ⟨kvs5, _, _, _, _, _, rfl, s5, e5, ?_, ?_⟩
        · rw [et]
          exact led5
        · exact kl5
    · rintro σ H2 ⟨kvs, v2, v3, v4, v5, v6, rfl, s2, e2, led, kl⟩
      rw [List.length_map, hv.1, List.take_length] at led
      exact ⟨_, rfl, k td H2 kvs s2 htd e2 led⟩
end
end K28
set_option Elab.async false
set_option linter.all false
set_option maxRecDepth 100000
set_option maxHeartbeats 1000000
namespace K28
open PySem L2
open PyProof.Rows (envOfC)
abbrev s_walkto : Stmt := top 31
abbrev s_tornw : Stmt := top 32
def WalkAt (H : Hp) (l : Addr) (ws : List An) : Prop := ∃ rs : List Addr, H l = some (.lst (rs.map V.ref)) ∧ Tups H rs (ws.map skP)
section
variable {P : Program} {w : World} {K : PySem.W.Frag} {mg : Str → Option Value} {base : Heap}
def spWalks (n : Nat) : Sp := fun vs H Q _ => ∃ (ld T : Addr) (kv0 : List (List Key × V)) (es : List (An × An)) (st : An), vs = [.ref ld, .ref T] ∧ H ld = some (.dT kv0) ∧ LedV H kv0 es ∧ H T = some (.tup ((skP st).map kV)) ∧ Gr n (EV es) ∧ Ok n st ∧ n ≤ 12 ∧ es.length ≤ 250 ∧
  ∀ td H' kvs, Same H H' → H td = none → H' td = some (.dT kvs) → WV H H' (EV es) st kvs → (∀ p, (valV kvs (skP p)).isSome = true ↔ Rch (EV es) st p) → kvs.length ≤ 100 → Q (.ref td) H'
structure WI (n : Nat) (H0 H : Hp) (E : An → An → Prop) (st : An) (td fr : Addr) (kvs : List (List Key × V)) (fs : List Addr) (ps : List An) (m : Nat) : Prop where
  same : Same H0 H
  dict : H td = some (.dT kvs)
  fresh : H fr = some (.lst (fs.map V.ref))
  tups : Tups H fs (ps.map skP)
  wv : WV H0 H E st kvs
  nf : ∀ k, valV kvs k ≠ some (.ref fr)
  here : (valV kvs (skP st)).isSome = true
  seen : ∀ p ∈ ps, (valV kvs (skP p)).isSome = true
  len : kvs.length + unseen n kvs ≤ 25
  meas : 2 * unseen n kvs + ps.length ≤ m
theorem WI.keys {n : Nat} {H0 H : Hp} {E : An → An → Prop} {st : An} {td fr : Addr} {kvs : List (List Key × V)} {fs : List Addr} {ps : List An} {m : Nat} (h : WI n H0 H E st td fr kvs fs ps m) {p : An} (e : (valV kvs (skP p)).isSome = true) : Rch E st p := by
  obtain ⟨v, hv⟩ := Option.isSome_iff_exists.mp e
  obtain ⟨l, rs, ws, _, _, _, _, wk, _⟩ := h.wv.at hv
  exact wk.rch
abbrev N_wf : List Str := ["led", "start", "told", "fresh", "answer", "beyond"]
abbrev P_wf : List Str := ["led", "start"]
theorem sc_wf : FnScope N_wf P_wf (defScope s_walks) := ⟨rfl, rfl, rfl, by decide +kernel, rfl, by decide +kernel, by decide +kernel⟩
theorem ok_walks {f : Addr} {fd : FuncData} {n : Nat} (D : Df K mg "walks_from" s_walks P_wf f fd) : FnOk P w K mg base (CXE P w) 1 f fd P_wf (spWalks n) := by
  refine D.F.okN sc_wf (fun vs H Q E h => ?_) (fun cdv A outer s H vs Q E hr h => ?_)
  · obtain ⟨ld, T, kv0, es, st, rfl, _⟩ := h
    rfl
  · obtain ⟨ld, T, kv0, es, st, rfl, eld, led, eT, gr, ost, n12, e250, k⟩ := h
    have hu : (A.deeper (envOfC "walks_from" (defScope s_walks) s.heap.objs.size f cdv)).units + 1 < cLine := by have := hr.units; omega
    refine ⟨_, pss_cons (ps_set (i := 2) sc_wf.nd rfl (Or.inl rfl) (pe_disp1T hu (pv 1) (pe_lst (pa_cons (pv 1) pa_nil))))
      (pss_cons (ps_set (i := 3) sc_wf.nd rfl (Or.inl rfl) (pe_lst (pa_cons (pv 1) pa_nil)))
      (pss_cons (ps_while PassesOwn.never (pt_truth (pv 3) (fun _ => rfl))
      (pss_cons (ps_set (i := 4) sc_wf.nd rfl (Or.inl rfl) (pe_bm0 PySem.F.plainAttrs_list PySem.F.slot_list_pop PySem.F.type_list_pop mt_pop (pv 3)))
      (pss_one (ps_for PassesOwn.never rfl (pi_list (pe_dget2 hu (pv 0) (pv 4) (pe_lst pa_nil) ⟨rfl, rfl, rfl, rfl⟩)) (pg_name (i := 5) sc_wf.nd rfl (Or.inl rfl))
      (pss_one (ps_if (pt_cmp (pc_dnotin hu (pv 5) (pv 2))) (pss_cons (ps_dput hu (pv 2) (pv 5) (pe_op op_cat (pe_dget hu (pv 2) (pv 4) (fun _ _ => rfl)) (pe_lst (pa_cons (pv 5) pa_nil))) rfl)
      (pss_one (ps_expr (pe_bm PySem.F.plainAttrs_list PySem.F.slot_list_append PySem.F.type_list_append mt_append (pv 3) (pa_cons (pv 5) pa_nil))))) pss_nil))))))
      (pss_one (ps_ret (pv 2))))), ?_⟩
    intro td htd
    have s0 := Same.new (o := .dT []) htd
    refine ⟨_, rfl, _, rfl, len_le (show 1 ≤ 100 by decide), fun l hl => ?_⟩
    have s1' := Same.new (o := .lst [.ref T]) hl
    have hl0 : H l = none := s0.none hl
    have ltd : l ≠ td := fun w => by rw [w, upd_same] at hl; cases hl
    refine ⟨skP st, T, _, rfl, s1' _ _ (s0 _ _ eT), s1' _ _ upd_same, ?_⟩
    have eT1 := s1' _ _ (s0 _ _ eT)
    have s01 : Same H (upd (upd (upd H td (.dT [])) l (.lst [.ref T])) td (.dT [(skP st, .ref l)])) := (s0.trans' s1').but htd fun b nb => upd_ne nb
    have e1 : upd (upd (upd H td (.dT [])) l (.lst [.ref T])) td (.dT [(skP st, .ref l)]) td = some (.dT [(skP st, .ref l)]) := upd_same
    have el1 : upd (upd (upd H td (.dT [])) l (.lst [.ref T])) td (.dT [(skP st, .ref l)]) l = some (.lst [.ref T]) := by rw [upd_ne ltd, upd_same]
    have eT2 := s01 _ _ eT
    generalize upd (upd (upd H td (.dT [])) l (.lst [.ref T])) td (.dT [(skP st, .ref l)]) = H1 at *
    clear s0 s1' eT1 hl
    refine ⟨_, rfl, len_le (show 1 ≤ 100 by decide), fun fr hfr => ?_⟩
    have sf := Same.new (o := .lst [.ref T]) hfr
    have fl : fr ≠ l := fun w => by rw [w, el1] at hfr; cases hfr
    have hfr0 : H fr = none := by
      cases z : H fr with
      | none => rfl
      | some o => rw [s01 _ _ z] at hfr; cases hfr
    have val1 : ∀ k, valV ([(skP st, V.ref l)] : List (List Key × V)) k = if k = skP st then some (.ref l) else none := fun k => by
      have := valV_put ([] : List (List Key × V)) (skP st) k (.ref l)
      exact this
    have ul := unseen_le n [(skP st, V.ref l)]
    have u0 : unseen n [(skP st, V.ref l)] + 1 ≤ 2 * n := by
      have h1 := unseen_put (kvs := []) (v := .ref l) ost rfl
      have h2 := unseen_le n []
      exact Nat.le_trans h1 h2
    have W0 : WI n H (upd H1 fr (.lst [.ref T])) (EV es) st td fr [(skP st, .ref l)] [T] [st] 60 := by
      refine ⟨s01.trans' sf, sf _ _ e1, upd_same, Tups.one (sf _ _ eT2), fun k v e => ?_, fun k w => ?_, ?_, fun p hp => ?_, ?_, ?_⟩
      · rw [val1] at e
        split at e
        · rename_i c
          cases e
          exact ⟨st, l, [T], [st], c, rfl, hl0, sf _ _ el1, Tups.one (sf _ _ eT2), Wk.one _ _, Nat.le_refl _⟩
        · cases e
      · rw [val1] at w
        split at w
        · exact fl (by injection w with w; injection w with w; exact w.symm)
        · cases w
      · rw [val1, if_pos rfl]; rfl
      · rw [List.mem_singleton.mp hp, val1, if_pos rfl]; rfl
      · show 1 + _ ≤ 25
        omega
      · show _ + 1 ≤ 60
        omega
    generalize upd H1 fr (.lst [.ref T]) = H2 at *
    refine ⟨fun m σ H3 => m ≤ 60 ∧ ∃ (kvs : List (List Key × V)) (fs : List Addr) (ps : List An) (v4 v5 : Option V), σ = [some (.ref ld), some (.ref T), some (.ref td), some (.ref fr), v4, v5] ∧ WI n H H3 (EV es) st td fr kvs fs ps m ∧ ∀ p q, (valV kvs (skP p)).isSome = true → p ∉ ps → EV es p q → (valV kvs (skP q)).isSome = true, ⟨60, Nat.le_refl _, _, _, _, _, _, rfl, W0, fun p q h hp => ?_⟩, ?_⟩
    · rw [val1] at h
      split at h
      · rename_i c
        exact absurd (List.mem_singleton.mpr (skP_inj c)) hp
      · cases h
    clear W0 val1 ul u0 sf fl e1 el1 eT2 s01 hfr
    rintro m σ H3 ⟨m60, kvs, fs, ps, v4, v5, rfl, W3, cl⟩
    refine ⟨_, rfl, _, .inl ⟨_, SqL.of W3.fresh, rfl⟩, ?_⟩
    rcases List.eq_nil_or_concat ps with e | ⟨ps0, a, e⟩
    · subst e
      have ef : fs = [] := List.length_eq_zero_iff.mp W3.tups.1
      subst ef
      refine iteF ⟨_, rfl, k td H3 kvs W3.same htd W3.dict W3.wv (fun p => ⟨W3.keys, fun r => ?_⟩) (by have := W3.len; omega)⟩
      induction r with
      | refl => exact W3.here
      | step _ e ih => exact cl _ _ ih (fun h => by cases h) e
    rw [List.concat_eq_append] at e
    subst e
    have t3 := W3.tups
    rw [List.map_append] at t3
    obtain ⟨fs0, r, ef, t0, er⟩ := Tups.unsnoc (k := skP a) t3
    subst ef
    have ne : (((fs0 ++ [r]).map V.ref).isEmpty) = false := by
      rw [List.map_append]
      cases fs0 <;> rfl
    rw [ne]
    refine iteT ⟨_, fun σ' H' h => h, ?_⟩
    have ef3 := W3.fresh
    refine ⟨_, rfl, .inl ⟨rfl, _, SqL.of ef3⟩, fr, _, .ref r, rfl, rfl, ef3, by rw [List.map_append]; simp, ?_⟩
    rw [show ((fs0 ++ [r]).map V.ref).dropLast = fs0.map V.ref by rw [List.map_append]; exact List.dropLast_concat]
    have ftd : fr ≠ td := fun w => by have := W3.dict; rw [← w, ef3] at this; cases this
    have fT : ∀ {b : Addr} {xs : List V}, H3 b = some (.tup xs) → upd H3 fr (.lst (fs0.map V.ref)) b = some (.tup xs) := fun h => by rw [upd_ne (fun w => by rw [w, ef3] at h; cases h)]; exact h
    have Lm := W3.meas
    rw [List.length_append] at Lm
    have Lm : 2 * unseen n kvs + (ps0.length + 1) ≤ m := Lm
    have m1 : 1 ≤ m := by omega
    have W4 : WI n H (upd H3 fr (.lst (fs0.map V.ref))) (EV es) st td fr kvs fs0 ps0 (m - 1) := by
      refine ⟨W3.same.but hfr0 fun b nb => upd_ne nb, by rw [upd_ne (Ne.symm ftd)]; exact W3.dict, upd_same, t0.upd ef3, W3.wv.lst ef3 W3.nf, W3.nf, W3.here, fun p hp => W3.seen p (List.mem_append_left _ hp), W3.len, by omega⟩
    have er4 := fT er
    have ha := W3.seen a (List.mem_append_right _ (List.mem_singleton.mpr rfl))
    have cl4 : ∀ p q, (valV kvs (skP p)).isSome = true → p ∉ ps0 → p ≠ a → EV es p q → (valV kvs (skP q)).isSome = true := fun p q h1 h2 h3 h4 => cl p q h1 (fun w => by
      rcases List.mem_append.mp w with w | w
      · exact h2 w
      · exact h3 (List.mem_singleton.mp w)) h4
    clear W3 t3 t0 er ne cl Lm fT ef3
    generalize upd H3 fr (.lst (fs0.map V.ref)) = H4 at *
    have eld4 := W4.same _ _ eld
    refine ⟨_, rfl, ld, rfl, .inr ⟨_, .inl eld4⟩, _, rfl, len_le (show 0 ≤ 100 by decide), fun L0 hL0 => ?_⟩
    have sL := Same.new (o := .lst []) hL0
    refine ⟨_, DGet.t (sL _ _ eld4) (sL _ _ er4), ?_⟩
    have led5 := led.mono (W4.same.trans' sL)
    have eL0 : upd H4 L0 (.lst []) L0 = some (.lst []) := upd_same
    have Lfr : L0 ≠ fr := fun w => by rw [w, W4.fresh] at hL0; cases hL0
    have Ltd : L0 ≠ td := fun w => by rw [w, W4.dict] at hL0; cases hL0
    have W5 : WI n H (upd H4 L0 (.lst [])) (EV es) st td fr kvs fs0 ps0 (m - 1) := ⟨W4.same.trans' sL, sL _ _ W4.dict, sL _ _ W4.fresh, W4.tups.mono sL, W4.wv.mono sL, W4.nf, W4.here, W4.seen, W4.len, W4.meas⟩
    have er5 := sL _ _ er4
    obtain ⟨l1, rs1, qs1, ev, el1, t1, hm1, lfr, ltd1, l250⟩ : ∃ (l1 : Addr) (rs1 : List Addr) (qs1 : List An), (valV kv0 (skP a)).getD (.ref L0) = .ref l1 ∧ upd H4 L0 (.lst []) l1 = some (.lst (rs1.map V.ref)) ∧ Tups (upd H4 L0 (.lst [])) rs1 (qs1.map skP) ∧ (∀ q', q' ∈ qs1 ↔ EV es a q') ∧ l1 ≠ fr ∧ l1 ≠ td ∧ qs1.length ≤ 250 := by
      rcases led a with ⟨h1, h2⟩ | ⟨l', rs', qs', h1, h2, h3, h4, h5⟩
      · exact ⟨L0, [], [], by rw [h1]; rfl, eL0, Tups.nil, (fun q' => ⟨(fun h => by cases h), fun h => absurd h (h2 q')⟩), Lfr, Ltd, Nat.zero_le _⟩
      · exact ⟨l', rs', qs', by rw [h1]; rfl, W5.same _ _ h2, h3.mono W5.same, h5, (fun w => by rw [w, hfr0] at h2; cases h2), (fun w => by rw [w, htd] at h2; cases h2), by omega⟩
    rw [ev]
    clear led5 eL0 Lfr Ltd W4 er4 sL eld4
    generalize upd H4 L0 (.lst []) = H5 at *
    refine ⟨l1, rfl, ⟨_, SqL.of el1⟩, ?_⟩
    refine for_list (K := K) (a := l1) (xs := rs1.map V.ref) (fun j σ H6 => ∃ (kvs : List (List Key × V)) (fs : List Addr) (ps : List An) (v5 : Option V), σ = [some (.ref ld), some (.ref T), some (.ref td), some (.ref fr), some (.ref r), v5] ∧ WI n H H6 (EV es) st td fr kvs fs ps (m - 1) ∧ H6 l1 = some (.lst (rs1.map V.ref)) ∧ Tups H6 rs1 (qs1.map skP) ∧ H6 r = some (.tup ((skP a).map kV)) ∧ (valV kvs (skP a)).isSome = true ∧ (∀ p q, (valV kvs (skP p)).isSome = true → p ∉ ps → p ≠ a → EV es p q → (valV kvs (skP q)).isSome = true) ∧ ∀ j' q, j' < j → qs1[j']? = some q → (valV kvs (skP q)).isSome = true) ⟨kvs, fs0, ps0, _, rfl, W5, el1, t1, er5, ha, cl4, fun j' q h => absurd h (Nat.not_lt_zero _)⟩ (fun j σ H6 _ ⟨_, _, _, _, _, _, e6, _⟩ => SqL.of e6) ?_ ?_
    · clear W5 el1 t1 er5 ha cl4
      rintro j y σ H6 hj ⟨kvs6, fs6, ps6, w5, rfl, W6, el6, t6, er6, ha6, cl6, dn6⟩
      obtain ⟨rb, kb, rfl, ek, eb⟩ := t6.item hj
      rw [List.getElem?_map] at ek
      cases zj : qs1[j]? with
      | none => rw [zj] at ek; cases ek
      | some b =>
        rw [zj] at ek
        cases ek
        have eab : EV es a b := (hm1 b).mp (List.mem_of_getElem? zj)
        refine ⟨_, rfl, _, rfl, td, _, rfl, DGet.t W6.dict eb, _, rfl, ?_⟩
        show if (!(valV kvs6 (skP b)).isSome) = true then _ else _
        cases zb : valV kvs6 (skP b) with
        | some vb =>
          refine iteF ⟨kvs6, fs6, ps6, _, rfl, W6, el6, t6, er6, ha6, cl6, fun j' q hj' hq => ?_⟩
          by_cases c : j' < j
          · exact dn6 j' q c hq
          · have e : j' = j := by omega
            subst e
            rw [zj] at hq
            cases hq
            rw [zb]; rfl
        | none =>
          refine iteT ?_
          obtain ⟨va, hva⟩ := Option.isSome_iff_exists.mp ha6
          obtain ⟨la, ra, wa, rfl, _, ela, ta, wka, lwa⟩ := W6.wv.at hva
          have L6 := W6.len
          refine ⟨_, rfl, _, rfl, td, _, rfl, by rw [← hva]; exact DGet.t W6.dict er6, _, rfl, len_le (show 1 ≤ 100 by decide), fun L1 hL1 => ?_⟩
          have sL1 := Same.new (o := .lst [.ref rb]) hL1
          refine ⟨la, L1, _, _, rfl, rfl, sL1 _ _ ela, upd_same, ?_, fun L2 hL2 => ?_⟩
          · rw [List.length_map, ta.1, List.length_map, sizeLine_eq]
            show wa.length + 1 ≤ _
            omega
          have sL2 := Same.new (o := .lst (ra.map V.ref ++ [.ref rb])) hL2
          have hL20 : H L2 = none := (W6.same.trans' sL1).none hL2
          have s68 := sL1.trans' sL2
          have eL2 : upd (upd H6 L1 (.lst [.ref rb])) L2 (.lst (ra.map V.ref ++ [.ref rb])) L2 = some (.lst ((ra ++ [rb]).map V.ref)) := by rw [upd_same, List.map_append]; rfl
          have d8 := s68 _ _ W6.dict
          have f8 := s68 _ _ W6.fresh
          have eb8 := s68 _ _ eb
          have ta8 := (ta.mono s68).snoc eb8
          rw [show wa.map skP ++ [skP b] = (wa ++ [b]).map skP by rw [List.map_append]; rfl] at ta8
          have wv8 := W6.wv.mono s68
          have tf8 := W6.tups.mono s68
          have el8 := s68 _ _ el6
          have t8 := t6.mono s68
          have er8 := s68 _ _ er6
          have s08 := W6.same.trans' s68
          have L2fr : L2 ≠ fr := fun w => by rw [w, sL1 _ _ W6.fresh] at hL2; cases hL2
          generalize upd (upd H6 L1 (.lst [.ref rb])) L2 (.lst (ra.map V.ref ++ [.ref rb])) = H8 at *
          refine ⟨_, rfl, _, rfl, td, _, rfl, DPut.t d8 eb8 ?_, ?_⟩
          · exact Nat.lt_of_le_of_lt (show kvs6.length ≤ 25 by omega) (by rw [sizeLine_eq]; decide)
          have kk : ∀ c, c ≠ td → upd H8 td (.dT (putK kvs6 (skP b) (.ref L2))) c = H8 c := fun c nc => upd_ne nc
          have nT8 : ∀ xs, H8 td ≠ some (.tup xs) := fun xs w => by rw [d8] at w; cases w
          have f9 : upd H8 td (.dT (putK kvs6 (skP b) (.ref L2))) fr = some (.lst (fs6.map V.ref)) := by rw [kk fr ftd]; exact f8
          have wv9 := wv8.put d8 zb hL20 eL2 ta8 (wka.snoc eab) (by rw [List.length_append]; show wa.length + 1 ≤ _; omega) kk
          have s09 := s08.but htd kk
          have d9 : upd H8 td (.dT (putK kvs6 (skP b) (.ref L2))) td = some (.dT (putK kvs6 (skP b) (.ref L2))) := upd_same
          have tf9 := tf8.but nT8 kk
          have el9 : upd H8 td (.dT (putK kvs6 (skP b) (.ref L2))) l1 = some (.lst (rs1.map V.ref)) := by rw [kk l1 ltd1]; exact el8
          have t9 := t8.but nT8 kk
          have er9 : upd H8 td (.dT (putK kvs6 (skP b) (.ref L2))) r = some (.tup ((skP a).map kV)) := by rw [kk r (fun w => nT8 _ (by rw [← w]; exact er8))]; exact er8
          have eb9 : upd H8 td (.dT (putK kvs6 (skP b) (.ref L2))) rb = some (.tup ((skP b).map kV)) := by rw [kk rb (fun w => nT8 _ (by rw [← w]; exact eb8))]; exact eb8
          generalize upd H8 td (.dT (putK kvs6 (skP b) (.ref L2))) = H9 at *
          have pm := W6.meas
          refine ⟨_, rfl, .inl ⟨rfl, _, SqL.of f9⟩, _, rfl, fr, _, _, rfl, rfl, f9, ?_, ?_⟩
          · rw [List.length_map, W6.tups.1, List.length_map, sizeLine_eq]
            omega
          have rT : ∀ {c : Addr} {xs ys : List V}, H9 c = some (.tup xs) → upd H9 fr (.lst ys) c = some (.tup xs) := fun h => by rw [upd_ne (fun w => by rw [w, f9] at h; cases h)]; exact h
          have up := unseen_put (kvs := kvs6) (v := .ref L2) (gr.snd eab) zb
          have some9 : ∀ {u : An}, (valV kvs6 (skP u)).isSome = true → (valV (putK kvs6 (skP b) (.ref L2)) (skP u)).isSome = true := fun {u} h => by
            rw [valV_put]
            split
            · rfl
            · exact h
          have someb : (valV (putK kvs6 (skP b) (.ref L2)) (skP b)).isSome = true := by rw [valV_put, if_pos rfl]; rfl
          have nf9 : ∀ k, valV (putK kvs6 (skP b) (.ref L2)) k ≠ some (.ref fr) := fun k w => by
            rw [valV_put] at w
            split at w
            · exact L2fr (by injection w with w; injection w)
            · exact W6.nf k w
          refine ⟨putK kvs6 (skP b) (.ref L2), fs6 ++ [rb], ps6 ++ [b], _, rfl, ⟨s09.but hfr0 fun c nc => upd_ne nc, by rw [upd_ne (Ne.symm ftd)]; exact d9, by rw [upd_same, List.map_append]; rfl, ?_, wv9.lst f9 nf9, nf9, some9 W6.here, fun p hp => ?_, ?_, ?_⟩, by rw [upd_ne lfr]; exact el9, t9.upd f9, rT er9, some9 ha6, fun p q h1 h2 h3 h4 => ?_, fun j' q hj' hq => ?_⟩
          · rw [List.map_append]
            exact (tf9.upd f9).snoc (rT eb9)
          · rcases List.mem_append.mp hp with hp | hp
            · exact some9 (W6.seen p hp)
            · rw [List.mem_singleton.mp hp]; exact someb
          · rw [put_len1 zb]; omega
          · rw [List.length_append]
            show _ + (ps6.length + 1) ≤ _
            omega
          · have np : p ∉ ps6 := fun w => h2 (List.mem_append_left _ w)
            have nb : p ≠ b := fun w => h2 (List.mem_append_right _ (List.mem_singleton.mpr w))
            rw [valV_put, if_neg (fun w => nb (skP_inj w))] at h1
            exact some9 (cl6 p q h1 np h3 h4)
          · by_cases c : j' < j
            · exact some9 (dn6 j' q c hq)
            · have e : j' = j := by omega
              subst e
              rw [zj] at hq
              cases hq
              exact someb
    · rintro σ H6 ⟨kvs6, fs6, ps6, w5, rfl, W6, el6, t6, er6, ha6, cl6, dn6⟩
      refine ⟨m - 1, by omega, by omega, kvs6, fs6, ps6, _, _, rfl, W6, fun p q h1 h2 h3 => ?_⟩
      by_cases c : p = a
      · subst c
        obtain ⟨j, hj⟩ := List.mem_iff_getElem?.mp ((hm1 q).mpr h3)
        exact dn6 j q (by rw [List.length_map, t6.1, List.length_map]; exact (List.getElem?_eq_some_iff.mp hj).1) hj
      · exact cl6 p q h1 h2 c h3
end
end K28
set_option Elab.async false
set_option linter.all false
set_option maxRecDepth 100000
set_option maxHeartbeats 1000000
namespace K28
open PySem L2
open PyProof.Rows (envOfC)
abbrev s_hold : Stmt := top 33
abbrev s_holdall : Stmt := top 34
abbrev s_keeping : Stmt := top 24
theorem WalkAt.mono {H H' : Hp} {l : Addr} {ws : List An} (h : WalkAt H l ws) (s : Same H H') : WalkAt H' l ws := let ⟨rs, h1, h2⟩ := h; ⟨rs, s _ _ h1, h2.mono s⟩
structure Ld (n : Nat) (H : Hp) (ld : Addr) (es : List (An × An)) : Prop where
  at_ : ∃ kv0, H ld = some (.dT kv0) ∧ LedV H kv0 es
  gr : Gr n (EV es)
  n12 : n ≤ 12
  len : es.length ≤ 250
theorem Ld.mono {n : Nat} {H H' : Hp} {ld : Addr} {es : List (An × An)} (h : Ld n H ld es) (s : Same H H') : Ld n H' ld es := let ⟨kv0, h1, h2⟩ := h.at_; ⟨⟨kv0, s _ _ h1, h2.mono s⟩, h.gr, h.n12, h.len⟩
section
variable {P : Program} {w : World} {K : PySem.W.Frag} {mg : Str → Option Value} {base : Heap}
def spWalkto (n : Nat) : Sp := fun vs H Q _ => ∃ (ld T G : Addr) (es : List (An × An)) (st g : An), vs = [.ref ld, .ref T, .ref G] ∧ Ld n H ld es ∧ H T = some (.tup ((skP st).map kV)) ∧ H G = some (.tup ((skP g).map kV)) ∧ Ok n st ∧
  (¬ Rch (EV es) st g → ∀ H', Same H H' → Q .non H') ∧ (∀ l ws H', Same H H' → H l = none → WalkAt H' l ws → Wk (EV es) st g ws → ws.length ≤ 100 → Q (.ref l) H')
abbrev N_wt : List Str := ["led", "start", "goal"]
abbrev P_wt : List Str := ["led", "start", "goal"]
theorem sc_wt : FnScope N_wt P_wt (defScope s_walkto) := ⟨rfl, rfl, rfl, by decide +kernel, rfl, by decide +kernel, by decide +kernel⟩
theorem ok_walkto {f fw : Addr} {fd gw : FuncData} {n : Nat} (D : Df K mg "walk_to" s_walkto P_wt f fd) (Dw : Df K mg "walks_from" s_walks P_wf fw gw) : FnOk P w K mg base (CXE P w) 2 f fd P_wt (spWalkto n) := by
  refine D.F.okN sc_wt (fun vs H Q E h => ?_) (fun cdv A outer s H vs Q E hr h => ?_)
  · obtain ⟨ld, T, G, es, st, g, rfl, _⟩ := h
    rfl
  · obtain ⟨ld, T, G, es, st, g, rfl, hld, eT, eG, ost, k1, k2⟩ := h
    have hu : (A.deeper (envOfC "walk_to" (defScope s_walkto) s.heap.objs.size f cdv)).units + 1 < cLine := by have := hr.units; omega
    obtain ⟨kv0, e0, led⟩ := hld.at_
    refine ⟨_, pss_one (ps_ret (pe_dget1 hu (pe_fn Dw (ok_walks (n := n) Dw) (hr.mono (by decide)) passN (pa_cons (pv 0) (pa_cons (pv 1) pa_nil))) (pv 2) ⟨rfl, rfl, rfl, rfl⟩)), ?_⟩
    refine ⟨_, rfl, _, rfl, ld, T, kv0, es, st, rfl, e0, led, eT, hld.gr, ost, hld.n12, hld.len, fun td H' kvs s' htd ed wv iff lk => ?_⟩
    refine ⟨td, rfl, .inr ⟨_, .inl ed⟩, _, rfl, _, DGet.t ed (s' _ _ eG), ?_⟩
    cases z : valV kvs (skP g) with
    | none => exact k1 (fun r => by have := (iff g).mpr r; rw [z] at this; cases this) H' s'
    | some v =>
      obtain ⟨l, rs, ws, rfl, l0, el, t, wk, lw⟩ := wv.at z
      exact k2 l ws H' s' l0 ⟨rs, el, t⟩ wk (by omega)
def spTornw (n : Nat) : Sp := fun vs H Q _ => ∃ (ld : Addr) (es : List (An × An)), vs = [.int n, .ref ld] ∧ Ld n H ld es ∧
  (¬ Torn n (EV es) → ∀ H', Same H H' → Q .non H') ∧ (∀ l q ws H', Same H H' → H l = none → WalkAt H' l ws → q < n → Wk (EV es) (q, 110) (q, 110) ws → (q, 121) ∈ ws → ws.length ≤ 200 → Q (.ref l) H')
theorem cut1 (xs : List V) : cutV xs (some 1) none = xs.drop 1 := by
  unfold cutV
  cases xs with
  | nil => rfl
  | cons x xs =>
    have e : HT.sIx (x :: xs).length 0 (some 1) = 1 := by
      unfold HT.sIx
      simp only [List.length_cons]
      split <;> omega
    rw [e]
    show List.take _ xs = xs
    rw [List.take_of_length_le]
    show xs.length ≤ _
    unfold HT.sIx
    simp
abbrev N_tw : List Str := ["questions", "led", "question", "there", "back"]
abbrev P_tw : List Str := ["questions", "led"]
theorem sc_tw : FnScope N_tw P_tw (defScope s_tornw) := ⟨rfl, rfl, rfl, by decide +kernel, rfl, by decide +kernel, by decide +kernel⟩
theorem ok_tornw {f ft : Addr} {fd gt : FuncData} {n : Nat} (D : Df K mg "torn_walk" s_tornw P_tw f fd) (Dt : Df K mg "walk_to" s_walkto P_wt ft gt) (Gt : FnOk P w K mg base (CXE P w) 2 ft gt P_wt (spWalkto n)) (B : Bt mg) : FnOk P w K mg base (CXE P w) 3 f fd P_tw (spTornw n) := by
  refine D.F.okN sc_tw (fun vs H Q E h => ?_) (fun cdv A outer s H vs Q E hr h => ?_)
  · obtain ⟨ld, es, rfl, _⟩ := h
    rfl
  · obtain ⟨ld, es, rfl, hld, k1, k2⟩ := h
    have n12 := hld.n12
    have hu : (A.deeper (envOfC "torn_walk" (defScope s_tornw) s.heap.objs.size f cdv)).units < cLine := by have := hr.units; omega
    refine ⟨_, pss_cons (ps_for PassesOwn.never rfl (pi_range1 (by rfl) B.range (pa_cons (pv 0) pa_nil)) (pg_name (i := 2) sc_tw.nd rfl (Or.inl rfl))
      (pss_cons (ps_set (i := 3) sc_tw.nd rfl (Or.inl rfl) (pe_fn Dt Gt (hr.mono (by decide)) passN (pa_cons (pv 1) (pa_cons (pe_tup (pa_cons (pv 2) (pa_cons pe_str pa_nil))) (pa_cons (pe_tup (pa_cons (pv 2) (pa_cons pe_str pa_nil))) pa_nil)))))
      (pss_cons (ps_set (i := 4) sc_tw.nd rfl (Or.inl rfl) (pe_fn Dt Gt (hr.mono (by decide)) passN (pa_cons (pv 1) (pa_cons (pe_tup (pa_cons (pv 2) (pa_cons pe_str pa_nil))) (pa_cons (pe_tup (pa_cons (pv 2) (pa_cons pe_str pa_nil))) pa_nil)))))
      (pss_one (ps_if (PW.pt (pw_and (pt_cmp (pc_notN (pv 3))) (pw_and1 (pt_cmp (pc_notN (pv 4)))))) (pss_one (ps_ret (pe_op op_cat (pv 3) (pe_slice sl_list (pv 4) (po_some pe_int) po_none)))) pss_nil)))))
      (pss_one (ps_ret pe_non)), ?_⟩
    refine ⟨_, rfl, _, rfl, by omega, by omega, ?_⟩
    refine for_range (n := n) (fun i σ H2 => ∃ v2 v3 v4, σ = [some (.int n), some (.ref ld), v2, v3, v4] ∧ Same H H2 ∧ ∀ q, q < i → ¬ (Rch (EV es) (q, 110) (q, 121) ∧ Rch (EV es) (q, 121) (q, 110))) ⟨_, _, _, rfl, Same.refl _, fun q h => absurd h (Nat.not_lt_zero _)⟩ ?_ ?_
    · rintro i σ H2 hi ⟨v2, v3, v4, rfl, s2, no⟩
      rw [Int.zero_add]
      have ld2 := hld.mono s2
      have next : ∀ (H3 : Hp) (v3 v4 : Option V), Same H2 H3 → ¬ (Rch (EV es) (i, 110) (i, 121) ∧ Rch (EV es) (i, 121) (i, 110)) → ∃ v2' v3' v4', [some (V.int n), some (V.ref ld), some (V.int i), v3, v4] = [some (V.int n), some (V.ref ld), v2', v3', v4'] ∧ Same H H3 ∧ ∀ q, q < i + 1 → ¬ (Rch (EV es) (q, 110) (q, 121) ∧ Rch (EV es) (q, 121) (q, 110)) := fun H3 v3 v4 s3 h => ⟨_, _, _, rfl, s2.trans' s3, fun q hq => by
        by_cases c : q < i
        · exact no q c
        · rw [show q = i by omega]; exact h⟩
      refine ⟨_, rfl, _, rfl, len_le (show 2 ≤ 100 by decide), fun T1 hT1 => ⟨_, rfl, len_le (show 2 ≤ 100 by decide), fun T2 hT2 => ?_⟩⟩
      have sA := Same.new (o := .tup [.int i, .str "n"]) hT1
      have sB := Same.new (o := .tup [.int i, .str "y"]) hT2
      refine ⟨ld, T1, T2, es, (i, 110), (i, 121), rfl, ld2.mono (sA.trans' sB), sB _ _ (show upd H2 T1 (.tup [.int i, .str "n"]) T1 = some (.tup ((skP (i, 110)).map kV)) from upd_same), (show upd (upd H2 T1 (.tup [.int i, .str "n"])) T2 (.tup [.int i, .str "y"]) T2 = some (.tup ((skP (i, 121)).map kV)) from upd_same), ⟨hi, .inr rfl⟩, fun nr H3 s3 => ?_, fun l ws H3 s3 l0 wa wk lw => ?_⟩
      · have s23 := (sA.trans' sB).trans' s3
        have ld3 := ld2.mono s23
        refine ⟨_, rfl, _, rfl, len_le (show 2 ≤ 100 by decide), fun T3 hT3 => ⟨_, rfl, len_le (show 2 ≤ 100 by decide), fun T4 hT4 => ?_⟩⟩
        have sC := Same.new (o := .tup [.int i, .str "y"]) hT3
        have sD := Same.new (o := .tup [.int i, .str "n"]) hT4
        refine ⟨ld, T3, T4, es, (i, 121), (i, 110), rfl, ld3.mono (sC.trans' sD), sD _ _ (show upd H3 T3 (.tup [.int i, .str "y"]) T3 = some (.tup ((skP (i, 121)).map kV)) from upd_same), (show upd (upd H3 T3 (.tup [.int i, .str "y"])) T4 (.tup [.int i, .str "n"]) T4 = some (.tup ((skP (i, 110)).map kV)) from upd_same), ⟨hi, .inl rfl⟩, fun nr' H4 s4 => ?_, fun l ws H4 s4 l0 wa wk lw => ?_⟩
        · exact ⟨_, rfl, _, rfl, iteF (next H4 _ _ (s23.trans' ((sC.trans' sD).trans' s4)) fun h => nr h.1)⟩
        · exact ⟨_, rfl, _, rfl, iteF (next H4 _ _ (s23.trans' ((sC.trans' sD).trans' s4)) fun h => nr h.1)⟩
      · have s23 := (sA.trans' sB).trans' s3
        have ld3 := ld2.mono s23
        refine ⟨_, rfl, _, rfl, len_le (show 2 ≤ 100 by decide), fun T3 hT3 => ⟨_, rfl, len_le (show 2 ≤ 100 by decide), fun T4 hT4 => ?_⟩⟩
        have sC := Same.new (o := .tup [.int i, .str "y"]) hT3
        have sD := Same.new (o := .tup [.int i, .str "n"]) hT4
        have s34 := sC.trans' sD
        refine ⟨ld, T3, T4, es, (i, 121), (i, 110), rfl, ld3.mono s34, sD _ _ (show upd H3 T3 (.tup [.int i, .str "y"]) T3 = some (.tup ((skP (i, 121)).map kV)) from upd_same), (show upd (upd H3 T3 (.tup [.int i, .str "y"])) T4 (.tup [.int i, .str "n"]) T4 = some (.tup ((skP (i, 110)).map kV)) from upd_same), ⟨hi, .inl rfl⟩, fun nr' H4 s4 => ?_, fun l' ws' H4 s4 l0' wa' wk' lw' => ?_⟩
        · exact ⟨_, rfl, _, rfl, iteT ⟨_, rfl, _, rfl, iteF (next H4 _ _ (s23.trans' (s34.trans' s4)) fun h => nr' h.2)⟩⟩
        · refine ⟨_, rfl, _, rfl, iteT ⟨_, rfl, _, rfl, iteT ?_⟩⟩
          have wa4 := wa.mono (s34.trans' s4)
          obtain ⟨r1, el1, t1⟩ := wa4
          obtain ⟨r2, el2, t2⟩ := wa'
          refine ⟨_, rfl, _, rfl, _, rfl, l', _, rfl, SqL.of el2, fun c hc => ?_⟩
          rw [cut1, ← List.map_drop]
          have sc := Same.new (o := .lst ((r2.drop 1).map V.ref)) hc
          have lr1 : r1.length = ws.length := by rw [t1.1, List.length_map]
          have lr2 : r2.length = ws'.length := by rw [t2.1, List.length_map]
          refine ⟨l, c, _, _, rfl, rfl, sc _ _ el1, upd_same, ?_, fun R hR => ?_⟩
          · rw [List.length_map, List.length_map, List.length_drop, sizeLine_eq]
            omega
          have sR := Same.new (o := .lst (r1.map V.ref ++ (r2.drop 1).map V.ref)) hR
          have s04 := s2.trans' (s23.trans' (s34.trans' s4))
          have wk2 := wk.cat wk'
          refine k2 R i (ws ++ ws'.drop 1) _ (s04.trans' (sc.trans' sR)) ((s04.trans' sc).none hR) ⟨r1 ++ r2.drop 1, by rw [upd_same, List.map_append], ?_⟩ hi wk2 ?_ ?_
          · rw [show (ws ++ ws'.drop 1).map skP = ws.map skP ++ (ws'.map skP).drop 1 by rw [List.map_append, List.map_drop]]
            refine ((t1.mono (sc.trans' sR))).append ?_
            refine ⟨by rw [List.length_drop, List.length_drop, t2.1], fun j r k' hr' hk' => ?_⟩
            rw [List.getElem?_drop] at hr' hk'
            exact (sc.trans' sR) _ _ (t2.2 _ r k' hr' hk')
          · exact List.mem_append_left _ (List.mem_of_getElem? wk.lst)
          · rw [List.length_append, List.length_drop]; omega
    · rintro σ H2 ⟨v2, v3, v4, rfl, s2, no⟩
      exact k1 (fun ⟨q, hq, h⟩ => no q (by omega) h) H2 s2
def spHold (n : Nat) : Sp := fun vs H Q _ => ∃ (ld T : Addr) (es : List (An × An)) (x : Str) (p : An), vs = [.ref ld, .str x, .ref T] ∧ Ld n H ld es ∧ Pat n x ∧ H T = some (.tup ((skP p).map kV)) ∧ Ok n p ∧
  (∀ H', Same H H' → HClash (EV es) x p → Q .non H') ∧ (∀ z H', Same H H' → Held n (EV es) x p z → Q (.str z) H')
abbrev N_hd : List Str := ["led", "pattern", "answer", "told", "question", "sign"]
abbrev P_hd : List Str := ["led", "pattern", "answer"]
theorem sc_hd : FnScope N_hd P_hd (defScope s_hold) := ⟨rfl, rfl, rfl, by decide +kernel, rfl, by decide +kernel, by decide +kernel⟩
theorem ok_hold {f fw fo fs ft : Addr} {fd gw go gs gt : FuncData} {n : Nat} (D : Df K mg "hold" s_hold P_hd f fd) (Dw : Df K mg "walks_from" s_walks P_wf fw gw) (Do : Df K mg "other" s_other P_ot fo go) (Ds : Df K mg "check_sign" s_csign ["sign"] fs gs) (Dt : Df K mg "with_answer" s_with Pwi ft gt) : FnOk P w K mg base (CXE P w) 3 f fd P_hd (spHold n) := by
  refine D.F.okN sc_hd (fun vs H Q E h => ?_) (fun cdv A outer s H vs Q E hr h => ?_)
  · obtain ⟨ld, T, es, x, p, rfl, _⟩ := h
    rfl
  · obtain ⟨ld, T, es, x, p, rfl, hld, px, eT, op, k1, k2⟩ := h
    have hu : (A.deeper (envOfC "hold" (defScope s_hold) s.heap.objs.size f cdv)).units < cLine := by have := hr.units; omega
    obtain ⟨kv0, e0, led⟩ := hld.at_
    have n12 := hld.n12
    refine ⟨_, pss_cons (ps_set (i := 3) sc_hd.nd rfl (Or.inl rfl) (pv 1))
      (pss_cons (ps_for PassesOwn.never rfl (pi_dict (pe_fn Dw (ok_walks (n := n) Dw) (hr.mono (by decide)) passN (pa_cons (pv 0) (pa_cons (pv 2) pa_nil)))) (pg_tup rfl (pgs_cons (pg_name (i := 4) sc_hd.nd rfl (Or.inl rfl)) (pgs_cons (pg_name (i := 5) sc_hd.nd rfl (Or.inl rfl)) pgs_nil)))
      (pss_cons (ps_if (pt_cmpR op_eq (pe_ix ix_str (pv 3) (pv 4) (fun _ _ => rfl)) (pe_fn Do (ok_other Do Ds) (hr.mono (by decide)) passN (pa_cons (pv 5) pa_nil)) (nomark _)) (pss_one (ps_ret pe_non)) pss_nil)
      (pss_one (ps_set (i := 3) sc_hd.nd rfl (Or.inl rfl) (pe_fn Dt (ok_with Dt) (hr.mono (by decide)) passN (pa_cons (pv 3) (pa_cons (pv 4) (pa_cons (pv 5) pa_nil))))))))
      (pss_one (ps_ret (pv 3)))), ?_⟩
    refine ⟨_, rfl, _, rfl, _, rfl, ld, T, kv0, es, p, rfl, e0, led, eT, hld.gr, op, n12, hld.len, fun td H1 kvs s1' htd ed wv iff lk => ?_⟩
    refine ⟨td, kvs, rfl, .inl ⟨ed, fun o => ?_⟩⟩
    have e2 : upd H1 td (.frz o (.dT kvs)) td = some (.frz o (.dT kvs)) := upd_same
    have k2' : ∀ b, b ≠ td → upd H1 td (.frz o (.dT kvs)) b = H1 b := fun b nb => upd_ne nb
    generalize upd H1 td (.frz o (.dT kvs)) = H2 at *
    have s2 := s1'.but htd k2'
    have own : ∀ {i : Nat} {kk : List Key} {vv : V}, kvs[i]? = some (kk, vv) → ∃ q : An, kk = skP q ∧ Rch (EV es) p q ∧ Ok n q := fun hk => by
      obtain ⟨v0, hv0⟩ := Option.isSome_iff_exists.mp (val_memT hk)
      obtain ⟨q, l, rs, ws, e, _, _, _, _, wk, _⟩ := wv _ _ hv0
      exact ⟨q, e, wk.rch, wk.rch.ok hld.gr op⟩
    refine for_dict (a := td) (o := o) (kvs := kvs) (fun i σ H3 => ∃ (z : Str) (v4 v5 : Option V), σ = [some (.ref ld), some (.str x), some (.ref T), some (.str z), v4, v5] ∧ Same H2 H3 ∧ Pat n z ∧ (∀ (j : Nat) (q : An) v, j < i → kvs[j]? = some (skP q, v) → ch z q.1 = q.2) ∧ (∀ i, i < n → ¬ ch x i = 45 → ch z i = ch x i) ∧ (∀ i, i < n → ch z i = ch x i ∨ Rch (EV es) p (i, ch z i))) ⟨x, _, _, rfl, Same.refl _, px, (fun j q v h => absurd h (Nat.not_lt_zero _)), (fun _ _ _ => rfl), fun _ _ => .inl rfl⟩ (fun i σ H3 _ ⟨_, _, _, _, s3, _⟩ => s3 _ _ e2) ?_ ?_
    · rintro i kk vv bb σ H3 hk ⟨z, v4, v5, rfl, s3, pz, all, old, new⟩ eb
      obtain ⟨q, rfl, rq, oq⟩ := own hk
      have szl : z.length ≤ sizeLine := by rw [pz.len]; exact len_le (by omega)
      have zat : atI z.cps.toList ((q.1 : Nat) : Int) = some (ch z q.1) := by
        have := tx_at (c := ch z) oq.1
        rw [← row_tx pz.len] at this
        exact this
      refine ⟨bb, _, rfl, SqT.of eb, rfl, _, _, rfl, _, _, rfl, rfl, ?_⟩
      refine ⟨_, rfl, _, rfl, _, _, _, rfl, rfl, szl, zat, _, rfl, q.2, rfl, oq.2, rfl, _, rfl, ?_⟩
      show if decide (s1 (ch z q.1) = s1 (notM q.2)) = true then _ else _
      rw [dec_s1]
      by_cases c : ch z q.1 = nt q.2
      · rw [show decide (ch z q.1 = notM q.2) = true from decide_eq_true c]
        refine iteT (k1 _ (s2.trans' s3) ⟨q, rq, ?_⟩)
        rcases new q.1 oq.1 with w | w
        · exact .inl (by rw [← w]; exact c)
        · rw [c] at w
          exact .inr w
      · rw [show decide (ch z q.1 = notM q.2) = false from decide_eq_false c]
        have at_ : ∀ j, j < n → ch (tx n (setC z q.1 q.2)) j = if j = q.1 then q.2 else ch z j := fun j hj => by rw [ch_tx hj]; rfl
        refine iteF ⟨_, rfl, _, rfl, _, rfl, z, n, q.1, q.2, rfl, pz.len, oq.1, by omega, _, _, _, rfl, s3, ⟨tx_len _ _, fun j hj => ?_⟩, fun j q' v' hj hk' => ?_, fun j hj nj => ?_, fun j hj => ?_⟩
        · rw [at_ j hj]
          split
          · exact oq.2.imp id .inl
          · exact pz.sgn j hj
        · by_cases e : j = i
          · subst e
            rw [hk] at hk'
            have e := skP_inj (Prod.mk.inj (Option.some.inj hk')).1
            subst e
            rw [at_ _ oq.1, if_pos rfl]
          · have a := all j q' v' (by omega) hk'
            obtain ⟨q2, eq2, r2, o2⟩ := own hk'
            have eq2 := skP_inj eq2
            subst eq2
            rw [at_ _ o2.1]
            split
            · rename_i h
              rw [h] at a
              rcases sg_cases oq.2 o2.2 with w | w
              · exact w.symm
              · rw [w] at a; exact absurd a c
            · exact a
        · have a := old j hj nj
          rw [at_ j hj]
          split
          · rename_i h
            subst h
            have sj : ch z q.1 = 121 ∨ ch z q.1 = 110 := by
              rcases pz.sgn _ hj with w | w | w
              · exact .inl w
              · exact .inr w
              · rw [a] at w; exact absurd w nj
            rcases sg_cases oq.2 sj with w | w
            · rw [← a, w]
            · exact absurd w c
          · exact a
        · rw [at_ j hj]
          split
          · rename_i h
            subst h
            exact .inr rq
          · exact new j hj
    · rintro σ H3 ⟨z, v4, v5, rfl, s3, pz, all, old, new⟩
      refine ⟨_, rfl, k2 z H3 (s2.trans' s3) ⟨pz, fun q r => ?_, old, new⟩⟩
      obtain ⟨v0, hv0⟩ := Option.isSome_iff_exists.mp ((iff q).mpr r)
      obtain ⟨kv, hkv, e⟩ := List.mem_map.mp (valV_some_iff.mp ((iff q).mpr r))
      obtain ⟨j, hj⟩ := List.mem_iff_getElem?.mp hkv
      obtain ⟨k0, v1⟩ := kv
      cases (show k0 = skP q from e)
      exact all j q v1 (List.getElem?_eq_some_iff.mp hj).1 hj
end
end K28
set_option Elab.async false
set_option linter.all false
set_option maxRecDepth 100000
set_option maxHeartbeats 1000000
namespace K28
open PySem L2
open PyProof.Rows (envOfC)
theorem tx_rep (n : Nat) : strRep ("-" : Str) (n : Int) = tx n (fun _ => 45) := tx_rep1 45 n
section
variable {P : Program} {w : World} {K : PySem.W.Frag} {mg : Str → Option Value} {base : Heap}
def spHoldall (n : Nat) : Sp := fun vs H Q _ => ∃ (ld G : Addr) (es : List (An × An)) (gs : List An) (rs : List Addr), vs = [.ref ld, .int n, .ref G] ∧ Ld n H ld es ∧ H G = some (.lst (rs.map V.ref)) ∧ Tups H rs (gs.map skP) ∧ (∀ p ∈ gs, Ok n p) ∧
  (∀ H', Same H H' → Quarrel (EV es) gs → Q .non H') ∧ (∀ z H', Same H H' → HAll n (EV es) gs z → Q (.str z) H')
abbrev N_ha : List Str := ["led", "questions", "given", "told", "answer"]
abbrev P_ha : List Str := ["led", "questions", "given"]
theorem sc_ha : FnScope N_ha P_ha (defScope s_holdall) := ⟨rfl, rfl, rfl, by decide +kernel, rfl, by decide +kernel, by decide +kernel⟩
theorem ok_holdall {f fh : Addr} {fd gh : FuncData} {n : Nat} (D : Df K mg "hold_all" s_holdall P_ha f fd) (Dh : Df K mg "hold" s_hold P_hd fh gh) (Gh : FnOk P w K mg base (CXE P w) 3 fh gh P_hd (spHold n)) : FnOk P w K mg base (CXE P w) 4 f fd P_ha (spHoldall n) := by
  refine D.F.okN sc_ha (fun vs H Q E h => ?_) (fun cdv A outer s H vs Q E hr h => ?_)
  · obtain ⟨ld, G, es, gs, rs, rfl, _⟩ := h
    rfl
  · obtain ⟨ld, G, es, gs, rs, rfl, hld, eG, tG, oks, k1, k2⟩ := h
    have n12 := hld.n12
    refine ⟨_, pss_cons (ps_set (i := 3) sc_ha.nd rfl (Or.inl rfl) (pe_op op_rep_str pe_str (pv 1)))
      (pss_cons (ps_for PassesOwn.never rfl (pi_list (pv 2)) (pg_name (i := 4) sc_ha.nd rfl (Or.inl rfl))
      (pss_cons (ps_set (i := 3) sc_ha.nd rfl (Or.inl rfl) (pe_fn Dh Gh (hr.mono (by decide)) passN (pa_cons (pv 0) (pa_cons (pv 3) (pa_cons (pv 4) pa_nil)))))
      (pss_one (ps_if (pt_cmp (pc_isN (pv 3))) (pss_one (ps_ret pe_non)) pss_nil))))
      (pss_one (ps_ret (pv 3)))), ?_⟩
    refine ⟨_, rfl, _, _, rfl, rfl, by omega, by omega, by decide, ?_⟩
    rw [tx_rep]
    refine ⟨_, rfl, G, rfl, ⟨_, SqL.of eG⟩, ?_⟩
    refine for_list (K := K) (a := G) (xs := rs.map V.ref) (fun i σ H2 => ∃ (z : Str) (v4 : Option V), σ = [some (.ref ld), some (.int n), some (.ref G), some (.str z), v4] ∧ Same H H2 ∧ HAll n (EV es) (gs.take i) z) ⟨_, _, rfl, Same.refl _, ?_⟩ (fun i σ H2 _ ⟨_, _, _, s2, _⟩ => SqL.of (s2 _ _ eG)) ?_ ?_
    · refine ⟨⟨tx_len _ _, fun i hi => by rw [ch_tx hi]; exact .inr (.inr rfl)⟩, fun p q e h => ?_, (fun p hp => by cases hp), fun i hi => .inl (by rw [ch_tx hi])⟩
      rw [ch_tx (hld.gr.fst e).1] at h
      exact absurd h (by rcases (hld.gr.fst e).2 with s | s <;> rw [s] <;> decide)
    · rintro i y σ H2 hi ⟨z, v4, rfl, s2, ha⟩
      obtain ⟨r, k', rfl, ek, er⟩ := (tG.mono s2).item hi
      rw [List.getElem?_map] at ek
      cases zi : gs[i]? with
      | none => rw [zi] at ek; cases ek
      | some p =>
        rw [zi] at ek
        cases ek
        have op := oks p (List.mem_of_getElem? zi)
        have tk : gs.take (i + 1) = gs.take i ++ [p] := by rw [List.take_add_one, zi]; rfl
        have dr : gs = gs.take i ++ p :: gs.drop (i + 1) := by
          have il := (List.getElem?_eq_some_iff.mp zi)
          rw [← il.2, List.getElem_cons_drop, List.take_append_drop]
        refine ⟨_, rfl, _, rfl, _, rfl, ld, r, es, z, p, rfl, hld.mono s2, ha.pat, er, op, fun H3 s3 hc => ?_, fun z' H3 s3 hd => ?_⟩
        · refine ⟨_, rfl, _, rfl, iteT (k1 _ (s2.trans' s3) ?_)⟩
          rw [dr]
          exact ha.none hld.gr op hc
        · refine ⟨_, rfl, _, rfl, iteF ⟨_, _, rfl, s2.trans' s3, ?_⟩⟩
          rw [tk]
          exact ha.next hld.gr op (fun p hp => oks p (List.mem_of_mem_take hp)) hd
    · rintro σ H2 ⟨z, v4, rfl, s2, ha⟩
      rw [List.length_map, tG.1, List.length_map, List.take_length] at ha
      exact ⟨_, rfl, k2 z H2 s2 ha⟩
theorem ans_ok {n : Nat} {x : Str} (h : Pat n x) : ∀ p ∈ ansG x n, Ok n p := fun p hp => by
  obtain ⟨h1, h2, h3⟩ := ansG_mem hp
  refine ⟨h1, ?_⟩
  rcases h.sgn p.1 h1 with w | w | w
  · exact .inl (by rw [h2]; exact w)
  · exact .inr (by rw [h2]; exact w)
  · rw [← h2] at w; exact absurd w h3
end
end K28
set_option Elab.async false
set_option linter.all false
set_option maxRecDepth 100000
set_option maxHeartbeats 1000000
namespace L2
open PySem PySem.Spec PyProof.Rows
section
variable {X : Cx}
end
end L2
set_option Elab.async false
set_option linter.all false
set_option maxRecDepth 100000
set_option maxHeartbeats 1000000
namespace K28
open PySem L2
open PyProof.Rows (envOfC)
abbrev s_winit : Stmt := inClass (top 1) 0
abbrev s_cinit : Stmt := inClass (top 5) 0
abbrev s_sinit : Stmt := inClass (top 6) 0
structure Xs (K : PySem.W.Frag) (mg : Str → Option Value) (W BC BS fW fC fS : Addr) (gW gC gS : FuncData) : Prop where
  mW : mg "WapentakeError" = some (.ref W)
  mC : mg "BadPattern" = some (.ref BC)
  mS : mg "Torn" = some (.ref BS)
  mV : mg "ValueError" = none
  kW : XKl K W
  kC : XKl K BC
  kS : XKl K BS
  sC : XSub K BC W
  sS : XSub K BS W
  aW : XAt K W "__init__" fW
  iC : XMk K BC fC
  iS : XMk K BS fS
  FW : Fun K "__init__" "WapentakeError.__init__" s_winit fW gW
  FC : Fun K "__init__" "BadPattern.__init__" s_cinit fC gC
  FS : Fun K "__init__" "Torn.__init__" s_sinit fS gS
  bW : Binds K gW ["self", "word"] []
  bC : Binds K gC ["self"] []
  bS : Binds K gS ["self"] []
section
variable {P : Program} {w : World} {K : PySem.W.Frag} {mg : Str → Option Value} {base : Heap} {C fi fa ft fy fm fc : Addr} {gi ga gt gy gm gc : FuncData} {W BC BS fW fC fS : Addr} {gW gC gS : FuncData}
def spWInit (K : PySem.W.Frag) : Sp := fun vs H Q _ => ∃ (ea C : Addr) (tb : Value) (ww : Str), vs = [.ref ea, .str ww] ∧ H ea = some (XO C none tb ea) ∧ XKl K C ∧ ∀ dx, H dx = none → Q .non (upd (upd H ea (XO C (some dx) tb ea)) dx (.xd [("word", .str ww)]))
theorem sc_winit : FnScope ["self", "word"] ["self", "word"] (defScope s_winit) := ⟨rfl, rfl, rfl, by decide +kernel, rfl, by decide +kernel, by decide +kernel⟩
theorem ok_winit (T : Xs K mg W BC BS fW fC fS gW gC gS) : FnOk P w K mg base (CXE P w) 1 fW gW ["self", "word"] (spWInit K) := by
  refine T.FW.okN sc_winit (fun vs H Q E h => ?_) (fun cdv A outer s H vs Q E hr h => ?_)
  · obtain ⟨ea, C, tb, ww, rfl, _⟩ := h
    rfl
  · obtain ⟨ea, C, tb, ww, rfl, e1, XC, k⟩ := h
    refine ⟨_, pss_cons (ps_expr (pe_vinit (by rfl) T.mV (pa_cons (pv 0) (pa_cons (pv 1) pa_nil)))) (pss_one (ps_xfld (pv 0) (pv 1))), ?_⟩
    exact ⟨_, rfl, _, rfl, ea, C, none, tb, _, rfl, e1, XC, _, rfl, _, rfl, ea, C, tb, rfl, e1, XC, XC.nw, fun dx hd => k dx hd⟩
def spInit (C : Addr) (ww : Str) : Sp := fun vs H Q _ => ∃ (ea : Addr) (tb : Value), vs = [.ref ea] ∧ H ea = some (XO C none tb ea) ∧ ∀ dx, H dx = none → Q .non (upd (upd H ea (XO C (some dx) tb ea)) dx (.xd [("word", .str ww)]))
theorem sc_cinit : FnScope ["self"] ["self"] (defScope s_cinit) := ⟨rfl, rfl, rfl, by decide +kernel, rfl, by decide +kernel, by decide +kernel⟩
theorem ok_cinit (T : Xs K mg W BC BS fW fC fS gW gC gS) : FnOk P w K mg base (CXE P w) 2 fC gC ["self"] (spInit BC "bad pattern") := by
  refine T.FC.okN sc_cinit (fun vs H Q E h => ?_) (fun cdv A outer s H vs Q E hr h => ?_)
  · obtain ⟨ea, tb, rfl, _⟩ := h
    rfl
  · obtain ⟨ea, tb, rfl, e1, k⟩ := h
    refine ⟨_, pss_one (ps_expr (pe_cmeth T.aW (ok_winit T) hr (by rfl) T.mW T.bW passN (pa_cons (pv 0) (pa_cons pe_str pa_nil)))), ?_⟩
    exact ⟨_, rfl, ea, BC, tb, _, rfl, e1, T.kC, k⟩
theorem sc_sinit : FnScope ["self"] ["self"] (defScope s_sinit) := ⟨rfl, rfl, rfl, by decide +kernel, rfl, by decide +kernel, by decide +kernel⟩
theorem ok_sinit (T : Xs K mg W BC BS fW fC fS gW gC gS) : FnOk P w K mg base (CXE P w) 2 fS gS ["self"] (spInit BS "torn") := by
  refine T.FS.okN sc_sinit (fun vs H Q E h => ?_) (fun cdv A outer s H vs Q E hr h => ?_)
  · obtain ⟨ea, tb, rfl, _⟩ := h
    rfl
  · obtain ⟨ea, tb, rfl, e1, k⟩ := h
    refine ⟨_, pss_one (ps_expr (pe_cmeth T.aW (ok_winit T) hr (by rfl) T.mW T.bW passN (pa_cons (pv 0) (pa_cons pe_str pa_nil)))), ?_⟩
    exact ⟨_, rfl, ea, BS, tb, _, rfl, e1, T.kS, k⟩
def Ref (H : Hp) (E : XK) (C : Addr) (ww : Str) : Prop := ∀ dx H0, Same H H0 → H0 dx = some (.xd [("word", .str ww)]) → E (.ref C) (some dx) H0
theorem Ref.same {H H' : Hp} {E : XK} {C : Addr} {ww : Str} (r : Ref H E C ww) (s : Same H H') : Ref H' E C ww := fun dx H0 s0 e => r dx H0 (s.trans' s0) e
theorem Ref.out {H : Hp} {E : XK} {C ea dx : Addr} {o u : HO} {ww : Str} (r : Ref H E C ww) (he : H ea = none) (hd : upd H ea o dx = none) :
    E (.ref C) (some dx) fun b => if b = ea then none else upd (upd (upd H ea o) ea u) dx (.xd [("word", .str ww)]) b := by
  have ne : dx ≠ ea := fun z => by rw [z, upd_same] at hd; cases hd
  rw [upd_ne ne] at hd
  refine r dx _ (fun b v e => ?_) ?_
  · rw [if_neg (ne_of_none e he), upd_ne (ne_of_none e hd), upd_ne (ne_of_none e he), upd_ne (ne_of_none e he)]
    exact e
  · rw [if_neg ne, upd_same]
theorem Ref.raise {C ea : Addr} {H : Hp} {E : XK} {ww : Str} (r : Ref H E C ww) (kC : XKl K C) (he : H ea = none) : spInit C ww [.ref ea] (upd H ea (XO C none .none ea)) (fun v H2 => v = .non ∧ ∃ ea' C' dx, V.ref ea = .ref ea' ∧ H2 ea' = some (XO C' (some dx) .none ea') ∧ XKl K C' ∧ E (.ref C') (some dx) (fun b => if b = ea' then none else H2 b)) E := by
  refine ⟨ea, .none, rfl, upd_same, fun dx hd => ⟨rfl, ea, C, dx, rfl, ?_, kC, r.out he hd⟩⟩
  rw [upd_ne (fun z => by rw [← z, upd_same] at hd; cases hd), upd_same]
def inG (g : Str) (a : Nat) : Bool := decide (a ∈ g.cps.toList)
theorem in_occ (g : Str) (a : Nat) : (!(Builtin.Str.occurrences g ⟨#[a]⟩ 0 g.length 1).isEmpty) = inG g a := by
  rw [PySem.StrLaws.found_one]
  rfl
def spOnlyG : Sp := fun vs H Q _ => ∃ (x g : Str), vs = [.str x, .str g] ∧ x.length ≤ 100 ∧ ∀ H', Same H H' → Q (.bl (((List.range x.length).map fun i => inG g (ch x i)).all id)) H'
theorem ok_onlyG {f : Addr} {fd : FuncData} (D : Df K mg "only_of" s_only Pon f fd) (B : Bt mg) : FnOk P w K mg base (CXE P w) 1 f fd Pon spOnlyG := by
  refine D.F.okN sc_only (fun vs H Q E h => ?_) (fun cdv A outer s H vs Q E hr h => ?_)
  · obtain ⟨x, g, rfl, _⟩ := h
    rfl
  · obtain ⟨x, g, rfl, hn, k⟩ := h
    refine ⟨_, pss_one (ps_ret (pe_callB (call_all rfl) (by rfl) B.all (by rfl) (pa_cons
      (pe_comp (N' := ["sign", "signs"]) (fm := [none, some 1]) rfl ⟨rfl, by decide +kernel, by decide +kernel, rfl, rfl, rfl⟩
        (pi_str (pv 0)) (fun _ _ _ _ => pg_name (i := 0) nd_on rfl (Or.inl rfl)) (fun _ _ _ _ => pif_nil)
        (fun _ _ _ _ => pe_cmpR op_in_str (pv 0) (pv 1) (by rfl))) pa_nil))), ?_⟩
    refine ⟨_, rfl, _, rfl, fun p hp => ?_⟩
    refine blk_str (fun i σ H2 => ∃ u, σ = [u, some (.str g)] ∧ Same H H2 ∧ H2 p = some (.lst ((List.range i).map fun j => V.bl (inG g (ch x j))))) ⟨none, rfl, Same.new hp, upd_same⟩ ?_ ?_
    · rintro i σ H2 hi ⟨u, rfl, s2, e2⟩
      refine turn_all ⟨_, rfl, _, rfl, _, _, rfl, rfl, _, e2, small_rng _ _ (by omega), _, rfl, Same.grow hp s2, ?_⟩
      rw [upd_same, ← map_snoc]
      show some (HO.lst (_ ++ [V.bl _])) = _
      rw [show (!(Builtin.Str.occurrences g ⟨#[x.cps.getD i 0]⟩ 0 g.length 1).isEmpty) = inG g (ch x i) from in_occ g _]
    · rintro σ H2 ⟨u, rfl, s2, e2⟩
      rw [map_bl] at e2
      exact ⟨p, _, rfl, SqL.of e2, k H2 s2⟩
theorem nyd_iff {a : Nat} : a ∈ (("ny" : Str) ++ ("-" : Str)).cps.toList ↔ (a = 121 ∨ a = 110 ∨ a = 45) := by
  show a ∈ [110, 121, 45] ↔ _
  simp
  omega
theorem pat_iff {n : Nat} {x : Str} (hl : x.length = n) : ((List.range x.length).map fun i => inG (("ny" : Str) ++ ("-" : Str)) (ch x i)).all id = true ↔ Pat n x := by
  rw [List.all_eq_true]
  constructor
  · intro h
    refine ⟨hl, fun i hi => ?_⟩
    exact nyd_iff.mp (of_decide_eq_true (h _ (List.mem_map.mpr ⟨i, List.mem_range.mpr (by omega), rfl⟩)))
  · rintro h b hb
    obtain ⟨i, hi, rfl⟩ := List.mem_map.mp hb
    exact decide_eq_true (nyd_iff.mpr (h.sgn i (by have := List.mem_range.mp hi; omega)))
def spIspat : Sp := fun vs H Q _ => ∃ (x : Str) (n : Nat), vs = [.str x, .int n] ∧ x.length ≤ 100 ∧ 1 ≤ n ∧ n ≤ 12 ∧ ∀ (b : Bool) H', (b = true ↔ Pat n x) → Same H H' → Q (.bl b) H'
abbrev Pip : List Str := ["pattern", "questions"]
theorem sc_ispat : FnScope Pip Pip (defScope s_ispat) := ⟨rfl, rfl, rfl, by decide +kernel, rfl, by decide +kernel, by decide +kernel⟩
theorem ok_ispat {f fc' fo : Addr} {fd gc' go : FuncData} (D : Df K mg "is_pattern" s_ispat Pip f fd) (Dc : Df K mg "check_count" s_ccount ["questions"] fc' gc') (Do : Df K mg "only_of" s_only Pon fo go) (B : Bt mg) (M : Gm mg) : FnOk P w K mg base (CXE P w) 2 f fd Pip spIspat := by
  refine D.F.okN sc_ispat (fun vs H Q E h => ?_) (fun cdv A outer s H vs Q E hr h => ?_)
  · obtain ⟨x, n, rfl, _⟩ := h
    rfl
  · obtain ⟨x, n, rfl, hx, n1, n12, k⟩ := h
    obtain ⟨t, mS⟩ := M.signs
    refine ⟨_, pss_cons (ps_expr (pe_fn Dc (ok_ccount Dc M) hr passN (pa_cons (pv 1) pa_nil)))
      (pss_one (ps_ret (pe_and (pe_cmpR op_eq (pe_callB call_len_str (by rfl) B.len PySem.boot_len (pa_cons (pv 0) pa_nil)) (pv 1) (nomark _))
        (pe_one (pe_fn Do (ok_onlyG Do B) hr passN (pa_cons (pv 0) (pa_cons (pe_op op_add_str (pe_glob (v := .str "ny") (by rfl) mS ⟨t, rfl⟩) pe_str) pa_nil))))))), ?_⟩
    refine ⟨_, rfl, n, rfl, n1, n12, _, rfl, _, rfl, len_le hx, _, rfl, rfl, _, rfl, ite2 (fun c => ?_) (fun c => ?_)⟩
    · have c : decide (V.int (x.length : Nat) = V.int (n : Nat)) = true := c
      rw [dec_int] at c
      have c : ((x.length : Nat) : Int) = (n : Nat) := by simpa using c
      exact ⟨_, rfl, _, _, rfl, rfl, len_le (show 3 ≤ 100 by decide), x, _, rfl, hx, fun H' s' => k _ H' (pat_iff (by omega)) s'⟩
    · have c : ¬ decide (V.int (x.length : Nat) = V.int (n : Nat)) = true := c
      rw [dec_int] at c
      have c : ¬ ((x.length : Nat) : Int) = (n : Nat) := by simpa using c
      exact k false H ⟨(fun h => by cases h), (fun h => absurd h.len (by omega))⟩ (Same.refl H)
def spCpat (BC : Addr) : Sp := fun vs H Q E => ∃ (x : Str) (n : Nat), vs = [.str x, .int n] ∧ x.length ≤ 100 ∧ 1 ≤ n ∧ n ≤ 12 ∧ ((Pat n x ∧ ∀ H', Same H H' → Q .non H') ∨ (¬ Pat n x ∧ Ref H E BC "bad pattern"))
theorem sc_cpat : FnScope Pip Pip (defScope s_cpat) := ⟨rfl, rfl, rfl, by decide +kernel, rfl, by decide +kernel, by decide +kernel⟩
theorem ok_cpat {f fi' : Addr} {fd gi' : FuncData} (D : Df K mg "check_pattern" s_cpat Pip f fd) (Di : Df K mg "is_pattern" s_ispat Pip fi' gi') (Gi : FnOk P w K mg base (CXE P w) 2 fi' gi' Pip spIspat) (T : Xs K mg W BC BS fW fC fS gW gC gS) : FnOk P w K mg base (CXE P w) 4 f fd Pip (spCpat BC) := by
  refine D.F.okE sc_cpat (fun vs H Q E h => ?_) (fun cdv A outer s H vs Q E hr h => ?_)
  · obtain ⟨x, n, rfl, _⟩ := h
    rfl
  · obtain ⟨x, n, rfl, hx, n1, n12, k⟩ := h
    refine ⟨_, pss_one (ps_if (pt_not (pt_val (pe_fn Di Gi (hr.mono (by decide)) passN (pa_cons (pv 0) (pa_cons (pv 1) pa_nil))))) (pss_one (ps_raise rfl passE (pe_xmake0 T.kC T.iC (ok_cinit T) hr (by rfl) T.mC T.bC passE))) pss_nil), ?_⟩
    refine ⟨_, rfl, _, rfl, x, n, rfl, hx, n1, n12, fun b H' hb s' => ⟨_, rfl, ?_⟩⟩
    rcases k with ⟨hp, k⟩ | ⟨hp, r⟩
    · rw [hb.mpr hp]
      exact iteF (k H' s')
    · have : b = false := by cases b with
        | false => rfl
        | true => exact absurd (hb.mp rfl) hp
      subst this
      exact iteT fun ea he => (r.same s').raise T.kC he
end
end K28
set_option Elab.async false
set_option linter.all false
set_option maxRecDepth 100000
set_option maxHeartbeats 1000000
namespace K28
open PySem L2
open PyProof.Rows (envOfC)
section
variable {P : Program} {w : World} {K : PySem.W.Frag} {mg : Str → Option Value} {base : Heap}
end
end K28
set_option Elab.async false
set_option linter.all false
set_option maxRecDepth 100000
set_option maxHeartbeats 4000000
namespace K28
open PySem L2
open PyProof.Rows (envOfC)
theorem wk_torn {n q : Nat} {E : An → An → Prop} {ws : List An} (hq : q < n) (wk : Wk E (q, 110) (q, 110) ws) (my : (q, 121) ∈ ws) : Torn n E := by
  obtain ⟨i, hi⟩ := List.mem_iff_getElem?.mp my
  refine ⟨q, hq, wk.upto i _ hi, ?_⟩
  have il := (List.getElem?_eq_some_iff.mp hi).1
  have go : ∀ (d j : Nat) (a : An), j + d = ws.length - 1 → ws[j]? = some a → Rch E a (q, 110) := by
    intro d
    induction d with
    | zero =>
      intro j a hj ha
      have e : j = ws.length - 1 := by omega
      subst e
      rw [wk.lst] at ha
      cases ha
      exact .refl _
    | succ d ih =>
      intro j a hj ha
      have e : ws[j + 1]? = some (ws[j + 1]'(by omega)) := List.getElem?_eq_getElem _
      exact (Rch.one (wk.mid j a _ ha e)).trans (ih (j + 1) _ (by omega) e)
  exact go (ws.length - 1 - i) i _ (by omega) hi
section
variable {P : Program} {w : World} {K : PySem.W.Frag} {mg : Str → Option Value} {base : Heap}
end
end K28
set_option Elab.async false
set_option linter.all false
set_option maxRecDepth 100000
set_option maxHeartbeats 1000000
namespace L2
open PySem PySem.Spec PyProof.Rows
section
variable {X : Cx}
end
end L2
namespace K28
open PySem L2
open PyProof.Rows (envOfC)
abbrev s_word : Stmt := top 43
section
variable {P : Program} {w : World} {K : PySem.W.Frag} {mg : Str → Option Value} {base : Heap} {C fi fa ft fy fm fc : Addr} {gi ga gt gy gm gc : FuncData} {W BC BS fW fC fS : Addr} {gW gC gS : FuncData}
abbrev Nw : List Str := ["_law_asked_here", "e"]
theorem sc_word : FnScope Nw ["_law_asked_here"] (defScope s_word) := ⟨rfl, rfl, rfl, by decide +kernel, rfl, by decide +kernel, by decide +kernel⟩
theorem ok_word {fw f : Addr} {gw fdl : FuncData} {k : Nat} {spl : Sp} (D : Df K mg "_law_word" s_word ["_law_asked_here"] fw gw) (T : Xs K mg W BC BS fW fC fS gW gC gS) (ho : base.get? f = some { cls := .type "function", data := .func fdl }) (hb : Binds K fdl [] [])
    (G : FnOk P w K mg base (CXE P w) k f fdl [] spl) : FnOk P w K mg base (CXE P w) (k + 1) fw gw ["_law_asked_here"] (spWord K W f spl) := by
  refine D.F.okN sc_word (fun vs H Q E h => ?_) (fun cdv A outer s H vs Q E hr h => ?_)
  · obtain ⟨rfl, _⟩ := h
    rfl
  · obtain ⟨rfl, h⟩ := h
    refine ⟨_, pss_one (ps_try (i := 1) (th := tRet (tTup (tCons (tXGet K (tVar 1) "word") tNil))) (Eh := wordE K W Q) (W := W) rfl rfl sc_word.nd rfl rfl (by rfl) T.mW T.kW
      (fun pins Ey hp => pss_one (ps_ret (pe_tup (pa_cons pe_str (pa_cons (pe_callL (i := 0) G hr ho hb hp rfl (Or.inl rfl)) pa_nil)))))
      (fun ea => by exact pss_one (ps_ret (pe_tup (pa_cons (pe_xget (pv 1)) pa_nil))))), ?_⟩
    refine ⟨⟨rfl, h⟩, fun C dx H0 ea T' H' he sx n0 ex => ?_⟩
    obtain ⟨Ca, dx', ww, e1, e2, e3, xs, xk, kk⟩ := he
    cases e1
    cases e2
    have ne : dx ≠ ea := ne_of_none e3 n0
    refine ⟨xs, _, rfl, ea, C, dx, _, _, .str ww, rfl, ex, sx dx _ ne e3, rfl, xk, xk.nw, len_le (show 1 ≤ 100 by decide), fun r hr' => ?_⟩
    exact kk H' r (fun b o e => sx b o (ne_of_none e n0) e) hr'
end
end K28
set_option Elab.async false
set_option linter.all false
set_option maxRecDepth 100000
set_option maxHeartbeats 1000000
namespace L2
open PySem PySem.Spec PyProof.Rows
structure Xc (K : PySem.W.Frag) (mg : Str → Option Value) (W B f : Addr) (g : FuncData) (cls qn : Str) (st : Stmt) : Prop where
  m : mg cls = some (.ref B)
  k : XKl K B
  s : XSub K B W
  i : XMk K B f
  F : Fun K "__init__" qn st f g
  b : Binds K g ["self"] []
end L2
set_option Elab.async false
set_option linter.all false
set_option maxRecDepth 100000
set_option maxHeartbeats 1000000
namespace K28
open PySem L2
open PyProof.Rows (envOfC)
abbrev s_binit : Stmt := inClass (top 2) 0
abbrev s_qinit : Stmt := inClass (top 3) 0
abbrev s_ginit : Stmt := inClass (top 4) 0
structure GV where
  q : Int
  a : Str
  r : Int
  b : Str
def GV.vals (g : GV) : List V := [.int g.q, .str g.a, .int g.r, .str g.b]
def GVs (K : PySem.W.Frag) (H : Hp) (rs : List Addr) (gs : List GV) : Prop := rs.length = gs.length ∧ ∀ (i : Nat) (r : Addr) (g : GV), rs[i]? = some r → gs[i]? = some g → SqT K H r g.vals
theorem GVs.mono {K : PySem.W.Frag} {H H' : Hp} {rs : List Addr} {gs : List GV} (h : GVs K H rs gs) (s : Same H H') : GVs K H' rs gs := ⟨h.1, fun i r v a b => s.seqT (h.2 i r v a b)⟩
theorem GVs.at {K : PySem.W.Frag} {H : Hp} {rs : List Addr} {gs : List GV} (h : GVs K H rs gs) {i : Nat} {x : V} (hi : (rs.map V.ref)[i]? = some x) : ∃ r g, x = .ref r ∧ rs[i]? = some r ∧ gs[i]? = some g ∧ SqT K H r g.vals := by
  rw [List.getElem?_map] at hi
  cases z : rs[i]? with
  | none => rw [z] at hi; cases hi
  | some r =>
    rw [z] at hi
    cases hi
    have il : i < rs.length := (List.getElem?_eq_some_iff.mp z).1
    have e : gs[i]? = some (gs[i]'(by rw [← h.1]; exact il)) := List.getElem?_eq_getElem (by rw [← h.1]; exact il)
    exact ⟨r, _, rfl, rfl, e, h.2 i r _ z e⟩
def QOk (n : Nat) (q : Int) : Prop := 0 ≤ q ∧ q < n
def SOk (a : Str) : Prop := a = "y" ∨ a = "n"
instance (n : Nat) (q : Int) : Decidable (QOk n q) := inferInstanceAs (Decidable (_ ∧ _))
instance (a : Str) : Decidable (SOk a) := inferInstanceAs (Decidable (_ ∨ _))
def gW (n : Nat) (g : GV) : Str := if ¬ (QOk n g.q ∧ QOk n g.r) then "no question" else if ¬ (SOk g.a ∧ SOk g.b) then "bad sign" else ""
def firstG (n : Nat) : List GV → Str
  | [] => ""
  | g :: gs => if gW n g = "" then firstG n gs else gW n g
theorem gW_good {n : Nat} {g : GV} : gW n g = "" ↔ (QOk n g.q ∧ QOk n g.r) ∧ SOk g.a ∧ SOk g.b := by
  unfold gW
  by_cases c : QOk n g.q ∧ QOk n g.r
  · rw [if_neg (fun w => w c)]
    by_cases d : SOk g.a ∧ SOk g.b
    · rw [if_neg (fun w => w d)]
      exact ⟨fun _ => ⟨c, d⟩, fun _ => rfl⟩
    · rw [if_pos d]
      exact ⟨fun w => absurd w (by decide), fun w => absurd w.2 d⟩
  · rw [if_pos c]
    exact ⟨fun w => absurd w (by decide), fun w => absurd w.1 c⟩
theorem firstG_good {n : Nat} : ∀ {gs : List GV}, firstG n gs = "" → ∀ g ∈ gs, gW n g = ""
  | [], _, g, h => by cases h
  | x :: gs, h, g, hg => by
    unfold firstG at h
    by_cases c : gW n x = ""
    · rw [if_pos c] at h
      rcases List.mem_cons.mp hg with rfl | hg
      · exact c
      · exact firstG_good h g hg
    · rw [if_neg c] at h
      exact absurd h c
theorem firstG_at {n : Nat} : ∀ {gs : List GV} {i : Nat} {g : GV}, (∀ (j : Nat) u, j < i → gs[j]? = some u → gW n u = "") → gs[i]? = some g → gW n g ≠ "" → firstG n gs = gW n g
  | [], i, g, _, h, _ => by cases h
  | x :: gs, 0, g, _, h, ne => by
    cases h
    unfold firstG
    rw [if_neg ne]
  | x :: gs, i + 1, g, al, h, ne => by
    unfold firstG
    rw [if_pos (al 0 x (Nat.succ_pos _) rfl)]
    exact firstG_at (fun j u hj hu => al (j + 1) u (Nat.succ_lt_succ hj) hu) h ne
theorem firstG_all {n : Nat} : ∀ {gs : List GV}, (∀ (j : Nat) u, gs[j]? = some u → gW n u = "") → firstG n gs = ""
  | [], _ => rfl
  | x :: gs, al => by
    unfold firstG
    rw [if_pos (al 0 x rfl)]
    exact firstG_all fun j u hu => al (j + 1) u hu
theorem sok_code {a : Str} (h : SOk a) : ∃ c, (c = 121 ∨ c = 110) ∧ a = ⟨#[c]⟩ := by
  rcases h with rfl | rfl
  · exact ⟨121, .inl rfl, rfl⟩
  · exact ⟨110, .inr rfl, rfl⟩
theorem GVs.good {K : PySem.W.Frag} {H : Hp} {n : Nat} : ∀ {rs : List Addr} {gs : List GV}, GVs K H rs gs → (∀ g ∈ gs, gW n g = "") → ∃ vo, Vows K H n rs vo ∧ VSg vo
  | [], [], _, _ => ⟨[], ⟨rfl, fun i r v h => by cases h⟩, fun v h => by cases h⟩
  | [], _ :: _, h, _ => by cases h.1
  | _ :: _, [], h, _ => by cases h.1
  | r :: rs, g :: gs, h, al => by
    obtain ⟨vo, hv, sg⟩ := GVs.good (rs := rs) (gs := gs) ⟨Nat.succ.inj h.1, fun i r v a b => h.2 (i + 1) r v a b⟩ (fun u hu => al u (List.mem_cons_of_mem _ hu))
    obtain ⟨⟨q1, q2⟩, sa, sb⟩ := gW_good.mp (al g List.mem_cons_self)
    obtain ⟨ca, ha, ea⟩ := sok_code sa
    obtain ⟨cb, hb, eb⟩ := sok_code sb
    have hr := h.2 0 r g rfl rfl
    have e1 : g.q = ((g.q.toNat : Nat) : Int) := by have := q1.1; omega
    have e2 : g.r = ((g.r.toNat : Nat) : Int) := by have := q2.1; omega
    have ev : g.vals = Vow.vals ⟨g.q.toNat, ca, g.r.toNat, cb⟩ := by
      unfold GV.vals Vow.vals
      rw [ea, eb, ← e1, ← e2]
      rfl
    rw [ev] at hr
    refine ⟨⟨g.q.toNat, ca, g.r.toNat, cb⟩ :: vo, ⟨by rw [List.length_cons, List.length_cons, hv.1], fun i r' v hr' hv' => ?_⟩, fun v hv' => ?_⟩
    · cases i with
      | zero =>
        cases hr'
        cases hv'
        exact ⟨hr, by have := q1.1; have := q1.2; show g.q.toNat < n; omega, by have := q2.1; have := q2.2; show g.r.toNat < n; omega⟩
      | succ i => exact hv.2 i r' v hr' hv'
    · rcases List.mem_cons.mp hv' with rfl | hv'
      · exact ⟨ha, hb⟩
      · exact sg v hv'
section
variable {P : Program} {w : World} {K : PySem.W.Frag} {mg : Str → Option Value} {base : Heap} {W BC BS fW fC fS BB fB BQ fQ BG fG : Addr} {gW' gC gS gB gQ gG : FuncData}
theorem sc_binit : FnScope ["self"] ["self"] (defScope s_binit) := ⟨rfl, rfl, rfl, by decide +kernel, rfl, by decide +kernel, by decide +kernel⟩
theorem ok_binit (T : Xs K mg W BC BS fW fC fS gW' gC gS) (Z : Xc K mg W BB fB gB "BadCount" "BadCount.__init__" s_binit) : FnOk P w K mg base (CXE P w) 2 fB gB ["self"] (spInit BB "bad count") := by
  refine Z.F.okN sc_binit (fun vs H Q E h => ?_) (fun cdv A outer s H vs Q E hr h => ?_)
  · obtain ⟨ea, tb, rfl, _⟩ := h
    rfl
  · obtain ⟨ea, tb, rfl, e1, k⟩ := h
    refine ⟨_, pss_one (ps_expr (pe_cmeth T.aW (ok_winit T) hr (by rfl) T.mW T.bW passN (pa_cons (pv 0) (pa_cons pe_str pa_nil)))), ?_⟩
    exact ⟨_, rfl, ea, BB, tb, _, rfl, e1, Z.k, k⟩
theorem sc_qinit : FnScope ["self"] ["self"] (defScope s_qinit) := ⟨rfl, rfl, rfl, by decide +kernel, rfl, by decide +kernel, by decide +kernel⟩
theorem ok_qinit (T : Xs K mg W BC BS fW fC fS gW' gC gS) (Z : Xc K mg W BQ fQ gQ "NoQuestion" "NoQuestion.__init__" s_qinit) : FnOk P w K mg base (CXE P w) 2 fQ gQ ["self"] (spInit BQ "no question") := by
  refine Z.F.okN sc_qinit (fun vs H Q E h => ?_) (fun cdv A outer s H vs Q E hr h => ?_)
  · obtain ⟨ea, tb, rfl, _⟩ := h
    rfl
  · obtain ⟨ea, tb, rfl, e1, k⟩ := h
    refine ⟨_, pss_one (ps_expr (pe_cmeth T.aW (ok_winit T) hr (by rfl) T.mW T.bW passN (pa_cons (pv 0) (pa_cons pe_str pa_nil)))), ?_⟩
    exact ⟨_, rfl, ea, BQ, tb, _, rfl, e1, Z.k, k⟩
theorem sc_ginit : FnScope ["self"] ["self"] (defScope s_ginit) := ⟨rfl, rfl, rfl, by decide +kernel, rfl, by decide +kernel, by decide +kernel⟩
theorem ok_ginit (T : Xs K mg W BC BS fW fC fS gW' gC gS) (Z : Xc K mg W BG fG gG "BadSign" "BadSign.__init__" s_ginit) : FnOk P w K mg base (CXE P w) 2 fG gG ["self"] (spInit BG "bad sign") := by
  refine Z.F.okN sc_ginit (fun vs H Q E h => ?_) (fun cdv A outer s H vs Q E hr h => ?_)
  · obtain ⟨ea, tb, rfl, _⟩ := h
    rfl
  · obtain ⟨ea, tb, rfl, e1, k⟩ := h
    refine ⟨_, pss_one (ps_expr (pe_cmeth T.aW (ok_winit T) hr (by rfl) T.mW T.bW passN (pa_cons (pv 0) (pa_cons pe_str pa_nil)))), ?_⟩
    exact ⟨_, rfl, ea, BG, tb, _, rfl, e1, Z.k, k⟩
def spCcE (BB : Addr) : Sp := fun vs H Q E => ∃ c : Int, vs = [.int c] ∧ ((1 ≤ c ∧ c ≤ 12) → Q .non H) ∧ (¬ (1 ≤ c ∧ c ≤ 12) → Ref H E BB "bad count")
abbrev N_cc : List Str := ["questions"]
abbrev P_cc : List Str := ["questions"]
theorem sc_cc : FnScope N_cc P_cc (defScope s_ccount) := ⟨rfl, rfl, rfl, by decide +kernel, rfl, by decide +kernel, by decide +kernel⟩
theorem ok_ccE {f : Addr} {fd : FuncData} (D : Df K mg "check_count" s_ccount ["questions"] f fd) (X : Xs K mg W BC BS fW fC fS gW' gC gS) (ZB : Xc K mg W BB fB gB "BadCount" "BadCount.__init__" s_binit) (M : Gm mg) : FnOk P w K mg base (CXE P w) 4 f fd ["questions"] (spCcE BB) := by
  refine D.F.okE sc_cc (fun vs H Q E h => ?_) (fun cdv A outer s H vs Q E hr h => ?_)
  · obtain ⟨c, rfl, _⟩ := h
    rfl
  · obtain ⟨c, rfl, k1, k2⟩ := h
    obtain ⟨tq, hq⟩ := M.most
    refine ⟨_, pss_one (ps_if (PW.pt (pw_or (pt_cmpR op_lt (pv 0) pe_int (nomark _)) (pw_or1 (pt_cmpR op_gt (pv 0) (pe_glob (v := .int 12) (by rfl) hq ⟨tq, rfl⟩) (nomark _))))) (pss_one (ps_raise rfl passE (pe_xmake0 ZB.k ZB.i (ok_binit X ZB) (hr.mono (by decide)) (by rfl) ZB.m ZB.b passE))) pss_nil), ?_⟩
    refine ⟨_, rfl, _, _, rfl, rfl, _, rfl, ite2 (fun z => ?_) (fun z => ?_)⟩
    · have z : c < 1 := of_decide_eq_true z
      exact iteT fun ea he => (k2 (by omega)).raise ZB.k he
    · have z : ¬ c < 1 := fun w => z (decide_eq_true w)
      refine ⟨_, rfl, _, _, rfl, rfl, _, rfl, ite2 (fun y => ?_) (fun y => ?_)⟩
      · have y : (12 : Int) < c := of_decide_eq_true y
        exact fun ea he => (k2 (by omega)).raise ZB.k he
      · have y : ¬ (12 : Int) < c := fun w => y (decide_eq_true w)
        exact k1 (by omega)
def spCqE (BQ : Addr) : Sp := fun vs H Q E => ∃ (q : Int) (n : Nat), vs = [.int q, .int n] ∧ (QOk n q → Q .non H) ∧ (¬ QOk n q → Ref H E BQ "no question")
abbrev N_cq : List Str := ["question", "questions"]
abbrev P_cq : List Str := ["question", "questions"]
theorem sc_cq : FnScope N_cq P_cq (defScope s_cquest) := ⟨rfl, rfl, rfl, by decide +kernel, rfl, by decide +kernel, by decide +kernel⟩
theorem ok_cqE {f : Addr} {fd : FuncData} (D : Df K mg "check_question" s_cquest Pcq f fd) (X : Xs K mg W BC BS fW fC fS gW' gC gS) (ZQ : Xc K mg W BQ fQ gQ "NoQuestion" "NoQuestion.__init__" s_qinit) : FnOk P w K mg base (CXE P w) 4 f fd Pcq (spCqE BQ) := by
  refine D.F.okE sc_cq (fun vs H Q E h => ?_) (fun cdv A outer s H vs Q E hr h => ?_)
  · obtain ⟨q, n, rfl, _⟩ := h
    rfl
  · obtain ⟨q, n, rfl, k1, k2⟩ := h
    refine ⟨_, pss_one (ps_if (PW.pt (pw_or (pt_cmpR op_lt (pv 0) pe_int (nomark _)) (pw_or1 (pt_cmpR op_ge (pv 0) (pv 1) (nomark _))))) (pss_one (ps_raise rfl passE (pe_xmake0 ZQ.k ZQ.i (ok_qinit X ZQ) (hr.mono (by decide)) (by rfl) ZQ.m ZQ.b passE))) pss_nil), ?_⟩
    refine ⟨_, rfl, _, _, rfl, rfl, _, rfl, ite2 (fun z => ?_) (fun z => ?_)⟩
    · have z : q < 0 := of_decide_eq_true z
      exact iteT fun ea he => (k2 fun w => by have := w.1; omega).raise ZQ.k he
    · have z : ¬ q < 0 := fun w => z (decide_eq_true w)
      refine ⟨_, rfl, _, rfl, _, _, rfl, rfl, _, rfl, ite2 (fun y => ?_) (fun y => ?_)⟩
      · have y : q ≥ (n : Int) := of_decide_eq_true y
        exact fun ea he => (k2 fun w => by have := w.2; omega).raise ZQ.k he
      · have y : ¬ q ≥ (n : Int) := fun w => y (decide_eq_true w)
        exact k1 ⟨by omega, by omega⟩
def spCsE (BG : Addr) : Sp := fun vs H Q E => ∃ (a : Str), vs = [.str a] ∧ (SOk a → Q .non H) ∧ (¬ SOk a → Ref H E BG "bad sign")
abbrev N_cs : List Str := ["sign"]
abbrev P_cs : List Str := ["sign"]
theorem sc_cs : FnScope N_cs P_cs (defScope s_csign) := ⟨rfl, rfl, rfl, by decide +kernel, rfl, by decide +kernel, by decide +kernel⟩
theorem ok_csE {f : Addr} {fd : FuncData} (D : Df K mg "check_sign" s_csign ["sign"] f fd) (X : Xs K mg W BC BS fW fC fS gW' gC gS) (ZG : Xc K mg W BG fG gG "BadSign" "BadSign.__init__" s_ginit) : FnOk P w K mg base (CXE P w) 4 f fd ["sign"] (spCsE BG) := by
  refine D.F.okE sc_cs (fun vs H Q E h => ?_) (fun cdv A outer s H vs Q E hr h => ?_)
  · obtain ⟨a, rfl, _⟩ := h
    rfl
  · obtain ⟨a, rfl, k1, k2⟩ := h
    refine ⟨_, pss_one (ps_if (PW.pt (pw_and (pt_cmpR op_ne (pv 0) pe_str (nomark _)) (pw_and1 (pt_cmpR op_ne (pv 0) pe_str (nomark _))))) (pss_one (ps_raise rfl passE (pe_xmake0 ZG.k ZG.i (ok_ginit X ZG) (hr.mono (by decide)) (by rfl) ZG.m ZG.b passE))) pss_nil), ?_⟩
    have inj : ∀ x y : Str, V.str x = V.str y ↔ x = y := fun x y => ⟨fun h => by injection h, fun h => by rw [h]⟩
    refine ⟨_, rfl, rfl, _, rfl, ?_⟩
    show if (!decide (V.str a = V.str ("y" : Str))) = true then _ else _
    by_cases c : a = "y"
    · rw [decide_eq_true ((inj _ _).mpr c)]
      exact iteF (iteF (k1 (.inl c)))
    · rw [decide_eq_false (fun w => c ((inj _ _).mp w))]
      refine iteT ⟨_, rfl, rfl, _, rfl, ?_⟩
      show if (!decide (V.str a = V.str ("n" : Str))) = true then _ else _
      by_cases d : a = "n"
      · rw [decide_eq_true ((inj _ _).mpr d)]
        exact iteF (k1 (.inr d))
      · rw [decide_eq_false (fun w => d ((inj _ _).mp w))]
        exact iteT fun ea he => (k2 fun w => w.elim c d).raise ZG.k he
def spCaE (BQ BG : Addr) : Sp := fun vs H Q E => ∃ (g : GV) (n : Nat), vs = g.vals ++ [.int n] ∧ (gW n g = "no question" → Ref H E BQ "no question") ∧ (gW n g = "bad sign" → Ref H E BG "bad sign") ∧ (gW n g = "" → Q .non H)
abbrev N_ca : List Str := ["q", "a", "r", "b", "questions"]
abbrev P_ca : List Str := ["q", "a", "r", "b", "questions"]
theorem sc_ca : FnScope N_ca P_ca (defScope s_cans) := ⟨rfl, rfl, rfl, by decide +kernel, rfl, by decide +kernel, by decide +kernel⟩
theorem ok_caE {f fq fs : Addr} {fd gq gs : FuncData} (D : Df K mg "check_answers" s_cans Pca f fd) (Dq : Df K mg "check_question" s_cquest Pcq fq gq) (Gq : FnOk P w K mg base (CXE P w) 4 fq gq Pcq (spCqE BQ)) (Ds : Df K mg "check_sign" s_csign ["sign"] fs gs) (Gs : FnOk P w K mg base (CXE P w) 4 fs gs ["sign"] (spCsE BG)) : FnOk P w K mg base (CXE P w) 5 f fd Pca (spCaE BQ BG) := by
  refine D.F.okE sc_ca (fun vs H Q E h => ?_) (fun cdv A outer s H vs Q E hr h => ?_)
  · obtain ⟨g, n, rfl, _⟩ := h
    rfl
  · obtain ⟨g, n, rfl, k1, k2, k3⟩ := h
    refine ⟨_, pss_cons (ps_expr (pe_fn Dq Gq (hr.mono (by decide)) passE (pa_cons (pv 0) (pa_cons (pv 4) pa_nil))))
      (pss_cons (ps_expr (pe_fn Dq Gq (hr.mono (by decide)) passE (pa_cons (pv 2) (pa_cons (pv 4) pa_nil))))
      (pss_cons (ps_expr (pe_fn Ds Gs (hr.mono (by decide)) passE (pa_cons (pv 1) pa_nil)))
      (pss_one (ps_expr (pe_fn Ds Gs (hr.mono (by decide)) passE (pa_cons (pv 3) pa_nil)))))), ?_⟩
    refine ⟨_, rfl, _, rfl, g.q, n, rfl, fun c1 => ?_, fun c1 => k1 ?_⟩
    case refine_2 => unfold gW; rw [if_pos fun w => c1 w.1]
    refine ⟨_, rfl, _, rfl, g.r, n, rfl, fun c2 => ?_, fun c2 => k1 ?_⟩
    case refine_2 => unfold gW; rw [if_pos fun w => c2 w.2]
    have qk : ¬ ¬ (QOk n g.q ∧ QOk n g.r) := fun w => w ⟨c1, c2⟩
    refine ⟨_, rfl, g.a, rfl, fun c3 => ?_, fun c3 => k2 ?_⟩
    case refine_2 => unfold gW; rw [if_neg qk, if_pos fun w => c3 w.1]
    refine ⟨_, rfl, g.b, rfl, fun c4 => ?_, fun c4 => k2 ?_⟩
    case refine_2 => unfold gW; rw [if_neg qk, if_pos fun w => c4 w.2]
    exact k3 (gW_good.mpr ⟨⟨c1, c2⟩, c3, c4⟩)
def spCoE (K : PySem.W.Frag) (BB BQ BG : Addr) : Sp := fun vs H Q E => ∃ (c : Int) (l : Addr) (n : Nat) (rs : List Addr) (gs : List GV), vs = [.int c, .ref l] ∧ SqL K H l (rs.map V.ref) ∧ GVs K H rs gs ∧ (¬ (1 ≤ c ∧ c ≤ 12) → Ref H E BB "bad count") ∧ ((1 ≤ c ∧ c ≤ 12) → c = n ∧ (firstG n gs = "no question" → Ref H E BQ "no question") ∧ (firstG n gs = "bad sign" → Ref H E BG "bad sign") ∧ (firstG n gs = "" → ∀ H', Same H H' → Q .non H'))
abbrev N_cw : List Str := ["questions", "oaths", "q", "a", "r", "b"]
abbrev P_cw : List Str := ["questions", "oaths"]
theorem sc_cw : FnScope N_cw P_cw (defScope s_coaths) := ⟨rfl, rfl, rfl, by decide +kernel, rfl, by decide +kernel, by decide +kernel⟩
theorem ok_coE {f fc fa : Addr} {fd gc ga : FuncData} (D : Df K mg "check_oaths" s_coaths P_co f fd) (Dc : Df K mg "check_count" s_ccount ["questions"] fc gc) (Gc : FnOk P w K mg base (CXE P w) 4 fc gc ["questions"] (spCcE BB)) (Da : Df K mg "check_answers" s_cans Pca fa ga) (Ga : FnOk P w K mg base (CXE P w) 5 fa ga Pca (spCaE BQ BG)) : FnOk P w K mg base (CXE P w) 6 f fd P_co (spCoE K BB BQ BG) := by
  refine D.F.okE sc_cw (fun vs H Q E h => ?_) (fun cdv A outer s H vs Q E hr h => ?_)
  · obtain ⟨c, l, n, rs, gs, rfl, _⟩ := h
    rfl
  · obtain ⟨c, l, n, rs, gs, rfl, hl, hg, k1, k2⟩ := h
    refine ⟨_, pss_cons (ps_expr (pe_fn Dc Gc (hr.mono (by decide)) passE (pa_cons (pv 0) pa_nil)))
      (pss_one (ps_for PassesOwn.leaving rfl (pi_list (pv 1)) (pg_tup rfl (pgs_cons (pg_name (i := 2) sc_cw.nd rfl (Or.inl rfl)) (pgs_cons (pg_name (i := 3) sc_cw.nd rfl (Or.inl rfl)) (pgs_cons (pg_name (i := 4) sc_cw.nd rfl (Or.inl rfl)) (pgs_cons (pg_name (i := 5) sc_cw.nd rfl (Or.inl rfl)) pgs_nil)))))
      (pss_one (ps_expr (pe_fn Da Ga (hr.mono (by decide)) passE (pa_cons (pv 2) (pa_cons (pv 3) (pa_cons (pv 4) (pa_cons (pv 5) (pa_cons (pv 0) pa_nil)))))))))), ?_⟩
    refine ⟨_, rfl, c, rfl, fun c12 => ?_, k1⟩
    obtain ⟨rfl, kq, ks, kn⟩ := k2 c12
    refine ⟨_, rfl, l, rfl, ⟨_, hl⟩, ?_⟩
    refine for_list (K := K) (a := l) (xs := rs.map V.ref) (fun i σ H2 => ∃ v2 v3 v4 v5, σ = [some (.int n), some (.ref l), v2, v3, v4, v5] ∧ Same H H2 ∧ ∀ (j : Nat) u, j < i → gs[j]? = some u → gW n u = "") ⟨_, _, _, _, rfl, Same.refl _, fun j u h => absurd h (Nat.not_lt_zero _)⟩ (fun i σ H2 _ ⟨_, _, _, _, _, s2, _⟩ => s2.seq hl) ?_ ?_
    · rintro i y σ H2 hi ⟨v2, v3, v4, v5, rfl, s2, al⟩
      obtain ⟨r, g, rfl, _, hg', ho⟩ := hg.at hi
      refine ⟨r, _, rfl, s2.seqT ho, rfl, _, _, rfl, _, _, rfl, _, _, rfl, _, _, rfl, rfl, ?_⟩
      refine ⟨_, rfl, _, rfl, _, rfl, _, rfl, _, rfl, g, n, rfl, fun z => ?_, fun z => ?_, fun z => ?_⟩
      · exact (kq (by rw [firstG_at al hg' (by rw [z]; decide), z])).same s2
      · exact (ks (by rw [firstG_at al hg' (by rw [z]; decide), z])).same s2
      · refine ⟨_, _, _, _, rfl, s2, fun j u hj hu => ?_⟩
        by_cases c : j < i
        · exact al j u c hu
        · have e : j = i := by omega
          subst e
          rw [hg'] at hu
          cases hu
          exact z
    · rintro σ H2 ⟨v2, v3, v4, v5, rfl, s2, al⟩
      refine kn (firstG_all fun j u hu => al j u ?_ hu) H2 s2
      rw [List.length_map, hg.1]
      exact (List.getElem?_eq_some_iff.mp hu).1
end
end K28
set_option Elab.async false
set_option linter.all false
set_option maxRecDepth 100000
set_option maxHeartbeats 1000000
namespace K28
open PySem L2
open PyProof.Rows (envOfC)
abbrev s_torn : Stmt := top 23
abbrev s_against : Stmt := top 27
abbrev s_follows : Stmt := top 25
def Ends3 (one two st g : An) : Prop := (st = one ∧ g = two) ∨ (st = one ∧ g = ng one) ∨ (st = ng two ∧ g = two)
structure Pt2 (n : Nat) (one two : An) (x : Str) : Prop where
  pat : Pat n x
  at_ : ∀ i, i < n → ch x i = if i = two.1 then nt two.2 else if i = one.1 then one.2 else 45
theorem Pt2.mem {n : Nat} {one two : An} {x : Str} (h : Pt2 n one two x) {p : An} (hp : p ∈ ansG x n) : p = one ∨ p = ng two := by
  obtain ⟨h1, h2, h3⟩ := ansG_mem hp
  rw [h.at_ _ h1] at h2
  obtain ⟨a, b⟩ := p
  split at h2
  · rename_i e
    have e : a = two.1 := e
    have h2 : b = nt two.2 := h2
    exact .inr (by rw [e, h2]; rfl)
  · split at h2
    · rename_i e
      have e : a = one.1 := e
      have h2 : b = one.2 := h2
      exact .inl (by rw [e, h2])
    · exact absurd h2 h3
theorem Pt2.two {n : Nat} {one two : An} {x z : Str} (h : Pt2 n one two x) (o2 : Ok n two) (az : ∀ p ∈ ansG x n, ch z p.1 = p.2) : ch z two.1 = nt two.2 := by
  have e : ch x two.1 = nt two.2 := by rw [h.at_ _ o2.1, if_pos rfl]
  have := az _ (mem_ansG (x := x) o2.1 (by rw [e]; rcases nt_sg two.2 with s | s <;> rw [s] <;> decide))
  rw [← e]
  exact this
theorem Pt2.one {n : Nat} {one two : An} {x z : Str} (h : Pt2 n one two x) (o1 : Ok n one) (o2 : Ok n two) (ne : one ≠ two) (az : ∀ p ∈ ansG x n, ch z p.1 = p.2) : ch z one.1 = one.2 := by
  by_cases c : one.1 = two.1
  · have t := h.two o2 az
    rw [c, t]
    rcases sg_cases o2.2 o1.2 with e | e
    · exact absurd (Prod.ext c e) ne
    · exact e.symm
  · have e : ch x one.1 = one.2 := by rw [h.at_ _ o1.1, if_neg c, if_pos rfl]
    have := az _ (mem_ansG (x := x) o1.1 (by rw [e]; rcases o1.2 with s | s <;> rw [s] <;> decide))
    rw [← e]
    exact this
structure Oa (K : PySem.W.Frag) (H : Hp) (l : Addr) (c : Int) (n : Nat) (rs : List Addr) (gs : List GV) (vo : List Vow) : Prop where
  lst : SqL K H l (rs.map V.ref)
  gvs : GVs K H rs gs
  len : rs.length ≤ 100
  cn : (1 ≤ c ∧ c ≤ 12) → c = n
  good : firstG n gs = "" → Vows K H n rs vo ∧ VSg vo
theorem Oa.mono {K : PySem.W.Frag} {H H' : Hp} {l : Addr} {c : Int} {n : Nat} {rs : List Addr} {gs : List GV} {vo : List Vow} (h : Oa K H l c n rs gs vo) (s : Same H H') : Oa K H' l c n rs gs vo := ⟨s.seq h.lst, h.gvs.mono s, h.len, h.cn, fun g => ⟨(h.good g).1.mono s, (h.good g).2⟩⟩
section
variable {P : Program} {w : World} {K : PySem.W.Frag} {mg : Str → Option Value} {base : Heap} {W BC BS fW fC fS BB fB BQ fQ BG fG : Addr} {gW' gC gS gB gQ gG : FuncData}
def spTornE (K : PySem.W.Frag) (BB BQ BG : Addr) : Sp := fun vs H Q E => ∃ (c : Int) (l : Addr) (n : Nat) (rs : List Addr) (gs : List GV) (vo : List Vow), vs = [.int c, .ref l] ∧ Oa K H l c n rs gs vo ∧
  (¬ (1 ≤ c ∧ c ≤ 12) → Ref H E BB "bad count") ∧ ((1 ≤ c ∧ c ≤ 12) → firstG n gs = "no question" → Ref H E BQ "no question") ∧ ((1 ≤ c ∧ c ≤ 12) → firstG n gs = "bad sign" → Ref H E BG "bad sign") ∧
  ((1 ≤ c ∧ c ≤ 12) → firstG n gs = "" → (¬ Torn n (EV (esV vo)) → ∀ H', Same H H' → Q .non H') ∧ (Torn n (EV (esV vo)) → ∀ r H', Same H H' → Q (.ref r) H'))
abbrev N_to : List Str := ["questions", "oaths"]
abbrev P_to : List Str := ["questions", "oaths"]
theorem sc_to : FnScope N_to P_to (defScope s_torn) := ⟨rfl, rfl, rfl, by decide +kernel, rfl, by decide +kernel, by decide +kernel⟩
theorem ok_tornE {f fc fl ft : Addr} {fd gc gl gt : FuncData} (D : Df K mg "torn" s_torn P_to f fd) (Dc : Df K mg "check_oaths" s_coaths P_co fc gc) (Gc : FnOk P w K mg base (CXE P w) 6 fc gc P_co (spCoE K BB BQ BG)) (Dl : Df K mg "links" s_links P_li fl gl) (Gl : FnOk P w K mg base (CXE P w) 4 fl gl P_li (spLinks K))
    (Dt : Df K mg "torn_walk" s_tornw P_tw ft gt) (Gt : ∀ n, FnOk P w K mg base (CXE P w) 3 ft gt P_tw (spTornw n)) : FnOk P w K mg base (CXE P w) 7 f fd P_to (spTornE K BB BQ BG) := by
  refine D.F.okE sc_to (fun vs H Q E h => ?_) (fun cdv A outer s H vs Q E hr h => ?_)
  · obtain ⟨c, l, n, rs, gs, vo, rfl, _⟩ := h
    rfl
  · obtain ⟨c, l, n, rs, gs, vo, rfl, O, k1, k2, k3, k4⟩ := h
    have Gt := Gt n
    refine ⟨_, pss_cons (ps_expr (pe_fn Dc Gc (hr.mono (by decide)) passE (pa_cons (pv 0) (pa_cons (pv 1) pa_nil))))
      (PSs.nox (pss_one (ps_ret (pe_fn Dt Gt (hr.mono (by decide)) passN (pa_cons (pv 0) (pa_cons (pe_fn Dl Gl (hr.mono (by decide)) passN (pa_cons (pv 1) pa_nil)) pa_nil)))))), ?_⟩
    refine ⟨_, rfl, _, rfl, c, l, n, rs, gs, rfl, O.lst, O.gvs, k1, fun c12 => ⟨O.cn c12, k2 c12, k3 c12, fun fg H1 s1' => ?_⟩⟩
    obtain rfl := O.cn c12
    obtain ⟨hv, sg⟩ := O.good fg
    have gr := gr_esV sg hv.inn
    have n12 : n ≤ 12 := by omega
    refine ⟨_, rfl, _, rfl, l, n, rs, vo, rfl, s1'.seq O.lst, hv.mono s1', sg, O.len, fun ld H3 kvs s3 _ e3 led => ?_⟩
    have hld : Ld n H3 ld (esV vo) := ⟨⟨kvs, e3, led⟩, gr, n12, by rw [esV_len, ← hv.1]; have := O.len; omega⟩
    have s03 := s1'.trans' s3
    exact ⟨ld, esV vo, rfl, hld, fun nt' H' s' => (k4 c12 fg).1 nt' H' (s03.trans' s'), fun r q ws H' s' r0 wa hq wk my lw => (k4 c12 fg).2 (wk_torn hq wk my) r H' (s03.trans' s')⟩
def spKeepE (K : PySem.W.Frag) (BB BQ BG BC : Addr) : Sp := fun vs H Q E => ∃ (c : Int) (l : Addr) (n : Nat) (rs : List Addr) (gs : List GV) (vo : List Vow) (x : Str), vs = [.int c, .ref l, .str x] ∧ Oa K H l c n rs gs vo ∧ x.length ≤ 100 ∧
  (¬ (1 ≤ c ∧ c ≤ 12) → Ref H E BB "bad count") ∧ ((1 ≤ c ∧ c ≤ 12) → firstG n gs = "no question" → Ref H E BQ "no question") ∧ ((1 ≤ c ∧ c ≤ 12) → firstG n gs = "bad sign" → Ref H E BG "bad sign") ∧
  ((1 ≤ c ∧ c ≤ 12) → firstG n gs = "" → ¬ Pat n x → Ref H E BC "bad pattern") ∧ ((1 ≤ c ∧ c ≤ 12) → firstG n gs = "" → Pat n x → ∀ v H', Same H H' → Q v H')
abbrev N_kp : List Str := ["questions", "oaths", "pattern", "led", "told", "question"]
abbrev P_kp : List Str := ["questions", "oaths", "pattern"]
theorem sc_kp : FnScope N_kp P_kp (defScope s_keeping) := ⟨rfl, rfl, rfl, by decide +kernel, rfl, by decide +kernel, by decide +kernel⟩
theorem ok_keepE {f fc fp fl fh fa fo fd' : Addr} {fd gc gp gl gh ga go gd : FuncData} (D : Df K mg "keeping" s_keeping P_kp f fd) (Dc : Df K mg "check_oaths" s_coaths P_co fc gc) (Gc : FnOk P w K mg base (CXE P w) 6 fc gc P_co (spCoE K BB BQ BG)) (Dp : Df K mg "check_pattern" s_cpat Pip fp gp) (Gp : FnOk P w K mg base (CXE P w) 4 fp gp Pip (spCpat BC)) (Dl : Df K mg "links" s_links P_li fl gl) (Gl : FnOk P w K mg base (CXE P w) 4 fl gl P_li (spLinks K))
    (Dh : Df K mg "hold_all" s_holdall P_ha fh gh) (Gh : ∀ n, FnOk P w K mg base (CXE P w) 4 fh gh P_ha (spHoldall n)) (Da : Df K mg "answers" s_ans ["pattern"] fa ga) (Do : Df K mg "open_places" s_open ["pattern"] fo go) (Dd : Df K mg "hold" s_hold P_hd fd' gd) (Gd : ∀ n, FnOk P w K mg base (CXE P w) 3 fd' gd P_hd (spHold n)) (M : Gm mg) : FnOk P w K mg base (CXE P w) 7 f fd P_kp (spKeepE K BB BQ BG BC) := by
  refine D.F.okE sc_kp (fun vs H Q E h => ?_) (fun cdv A outer s H vs Q E hr h => ?_)
  · obtain ⟨c, l, n, rs, gs, vo, x, rfl, _⟩ := h
    rfl
  · obtain ⟨c, l, n, rs, gs, vo, x, rfl, O, lx, k1, k2, k3, k4, k5⟩ := h
    have Gh := Gh n
    have Gd := Gd n
    refine ⟨_, pss_cons (ps_expr (pe_fn Dc Gc (hr.mono (by decide)) passE (pa_cons (pv 0) (pa_cons (pv 1) pa_nil))))
      (pss_cons (ps_expr (pe_fn Dp Gp (hr.mono (by decide)) passE (pa_cons (pv 2) (pa_cons (pv 0) pa_nil))))
      (PSs.nox (pss_cons (ps_set (i := 3) sc_kp.nd rfl (Or.inl rfl) (pe_fn Dl Gl (hr.mono (by decide)) passN (pa_cons (pv 1) pa_nil)))
      (pss_cons (ps_set (i := 4) sc_kp.nd rfl (Or.inl rfl) (pe_fn Dh Gh (hr.mono (by decide)) passN (pa_cons (pv 3) (pa_cons (pv 0) (pa_cons (pe_fn Da (ok_ans Da M) (hr.mono (by decide)) passN (pa_cons (pv 2) pa_nil)) pa_nil)))))
      (pss_cons (ps_if (pt_cmp (pc_isN (pv 4))) (pss_one (ps_ret pe_non)) pss_nil)
      (pss_cons (ps_for PassesOwn.never rfl (pi_list (pe_fn Do (ok_open Do M) (hr.mono (by decide)) passN (pa_cons (pv 4) pa_nil))) (pg_name (i := 5) sc_kp.nd rfl (Or.inl rfl))
      (pss_cons (ps_if (pt_cmpR op_eq (pe_ix ix_str (pv 4) (pv 5) (fun _ _ => rfl)) pe_str (nomark _)) (pss_one (ps_set (i := 4) sc_kp.nd rfl (Or.inl rfl) (pe_orT (pe_fn Dd Gd (hr.mono (by decide)) passN (pa_cons (pv 3) (pa_cons (pv 4) (pa_cons (pe_tup (pa_cons (pv 5) (pa_cons pe_str pa_nil))) pa_nil)))) (pe_one (pe_fn Dd Gd (hr.mono (by decide)) passN (pa_cons (pv 3) (pa_cons (pv 4) (pa_cons (pe_tup (pa_cons (pv 5) (pa_cons pe_str pa_nil))) pa_nil)))))))) pss_nil)
      (pss_one (ps_if (pt_cmp (pc_isN (pv 4))) (pss_one (ps_ret pe_non)) pss_nil))))
      (pss_one (ps_ret (pv 4))))))))), ?_⟩
    refine ⟨_, rfl, _, rfl, c, l, n, rs, gs, rfl, O.lst, O.gvs, k1, fun c12 => ⟨O.cn c12, k2 c12, k3 c12, fun fg H1 s1' => ?_⟩⟩
    obtain rfl := O.cn c12
    obtain ⟨hv, sg⟩ := O.good fg
    have hl := O.lst
    have l100 := O.len
    have gr := gr_esV sg hv.inn
    have n1 : 1 ≤ n := by omega
    have n12 : n ≤ 12 := by omega
    refine ⟨_, rfl, _, rfl, x, n, rfl, lx, n1, n12, ?_⟩
    by_cases px : Pat n x
    case neg => exact .inr ⟨px, (k4 c12 fg px).same s1'⟩
    have kk := k5 c12 fg px
    refine .inl ⟨px, fun H2 s2 => ?_⟩
    have s02 := s1'.trans' s2
    refine ⟨_, rfl, l, n, rs, vo, rfl, s02.seq hl, hv.mono s02, sg, l100, fun ld H3 kvs s3 _ e3 led => ?_⟩
    have hld : Ld n H3 ld (esV vo) := ⟨⟨kvs, e3, led⟩, gr, n12, by rw [esV_len, ← hv.1]; omega⟩
    have s03 := s02.trans' s3
    refine ⟨_, rfl, _, rfl, _, rfl, x, n, rfl, px.len, n12, fun G H4 _ acc => ?_⟩
    obtain ⟨as, ea, ta⟩ := acc.at_
    have s34 := acc.same
    refine ⟨ld, G, esV vo, ansG x n, as, rfl, hld.mono s34, ea, ta, ans_ok px, fun H5 s5 hq => ?_, fun z H5 s5 ha => ?_⟩
    · exact ⟨_, rfl, _, rfl, iteT (kk .non _ (s03.trans' (s34.trans' s5)))⟩
    · refine ⟨_, rfl, _, rfl, iteF ?_⟩
      have s05 := s03.trans' (s34.trans' s5)
      have hld5 := hld.mono (s34.trans' s5)
      refine ⟨_, rfl, z, n, rfl, ha.pat.len, n12, fun op H6 _ s6 eo => ?_⟩
      have s06 := s05.trans' s6
      have hld6 := hld5.mono s6
      refine ⟨op, rfl, ⟨_, SqL.of eo⟩, ?_⟩
      refine for_list (K := K) (a := op) (xs := (opnL z n).map vN) (fun i σ H7 => ∃ (y : Str) (v5 : Option V), σ = [some (.int n), some (.ref l), some (.str x), some (.ref ld), some (.str y), v5] ∧ Same H6 H7 ∧ Pat n y ∧ Clo (EV (esV vo)) y ∧ (∀ p ∈ ansG x n, ch y p.1 = p.2) ∧ ∀ j, j < n → ch y j = 45 → j ∈ (opnL z n).drop i) ⟨z, _, rfl, Same.refl _, ha.pat, ha.clo, ha.all, fun j hj h => ?_⟩ (fun i σ H7 _ ⟨_, _, _, s7, _⟩ => SqL.of (s7 _ _ eo)) ?_ ?_
      · rw [List.drop_zero]
        exact opn_mem.mpr ⟨hj, h⟩
      · rintro i y' σ H7 hi ⟨y, v5, rfl, s7, py, cy, ay, oy⟩
        rw [List.getElem?_map] at hi
        cases zi : (opnL z n)[i]? with
        | none => rw [zi] at hi; cases hi
        | some q =>
          rw [zi] at hi
          cases hi
          have hq := (opn_mem.mp (List.mem_of_getElem? zi)).1
          have dr : (opnL z n).drop i = q :: (opnL z n).drop (i + 1) := by
            have il := (List.getElem?_eq_some_iff.mp zi)
            rw [← il.2, List.getElem_cons_drop]
          have szl : y.length ≤ sizeLine := by rw [py.len]; exact len_le (by omega)
          have yat : atI y.cps.toList ((q : Nat) : Int) = some (ch y q) := by
            have := tx_at (c := ch y) hq
            rw [← row_tx py.len] at this
            exact this
          refine ⟨_, rfl, _, rfl, _, _, _, rfl, rfl, szl, yat, rfl, _, rfl, ?_⟩
          show if decide (s1 (ch y q) = s1 45) = true then _ else _
          rw [dec_s1]
          by_cases c : ch y q = 45
          case neg =>
            rw [decide_eq_false c]
            refine iteF ⟨_, rfl, _, rfl, iteF ⟨y, _, rfl, s7, py, cy, ay, fun j hj w => ?_⟩⟩
            have := oy j hj w
            rw [dr] at this
            rcases List.mem_cons.mp this with e | e
            · rw [e] at w; exact absurd w c
            · exact e
          rw [decide_eq_true c]
          have next : ∀ (p : An) (y2 : Str) (H8 : Hp) (v5 : Option V), Ok n p → p.1 = q → Held n (EV (esV vo)) y p y2 → Same H6 H8 → ∃ (y3 : Str) (v5' : Option V), [some (V.int n), some (V.ref l), some (V.str x), some (V.ref ld), some (V.str y2), v5] = [some (.int n), some (.ref l), some (.str x), some (.ref ld), some (.str y3), v5'] ∧ Same H6 H8 ∧ Pat n y3 ∧ Clo (EV (esV vo)) y3 ∧ (∀ p ∈ ansG x n, ch y3 p.1 = p.2) ∧ ∀ j, j < n → ch y3 j = 45 → j ∈ (opnL z n).drop (i + 1) := fun p y2 H8 v5 op pq hd s8 => by
            refine ⟨y2, v5, rfl, s8, hd.pat, hd.clo gr cy, fun u hu => ?_, fun j hj w => ?_⟩
            · have a := ay u hu
              have ou := ans_ok px u hu
              rw [hd.old u.1 ou.1 (by rw [a]; rcases ou.2 with s | s <;> rw [s] <;> decide)]
              exact a
            · have yj : ch y j = 45 := by
                rcases hd.new j hj with e | e
                · rw [← e]; exact w
                · rw [w] at e
                  have this : (45 : Nat) = 121 ∨ (45 : Nat) = 110 := (e.ok gr op).2
                  exact absurd this (by decide)
              have := oy j hj yj
              rw [dr] at this
              rcases List.mem_cons.mp this with e | e
              · have a := hd.all p (.refl p)
                rw [pq, ← e, w] at a
                exact absurd op.2 (by rw [← a]; decide)
              · exact e
          have truS : ∀ y2 : Str, Pat n y2 → TruV K (.str y2) H7 true := fun y2 h => by
            refine ⟨by rw [h.len]; exact len_le (by omega), ?_⟩
            rw [h.len]
            have : (n : Int) ≠ 0 := by omega
            simpa using this
          have hld7 := hld6.mono s7
          refine iteT ⟨_, rfl, _, rfl, _, rfl, len_le (show 2 ≤ 100 by decide), fun T1 hT1 => ?_⟩
          have sA := Same.new (o := .tup [.int q, .str "n"]) hT1
          have o1 : Ok n ((q, 110) : An) := ⟨hq, .inr rfl⟩
          have o2 : Ok n ((q, 121) : An) := ⟨hq, .inl rfl⟩
          refine ⟨ld, T1, esV vo, y, (q, 110), rfl, hld7.mono sA, py, (show upd H7 T1 (.tup [.int q, .str "n"]) T1 = some (.tup ((skP (q, 110)).map kV)) from upd_same), o1, fun H8 s8 c1 => ?_, fun y2 H8 s8 hd => ?_⟩
          · have s78 := sA.trans' s8
            refine ⟨false, rfl, iteF ⟨_, rfl, _, rfl, _, rfl, len_le (show 2 ≤ 100 by decide), fun T2 hT2 => ?_⟩⟩
            have sB := Same.new (o := .tup [.int q, .str "y"]) hT2
            refine ⟨ld, T2, esV vo, y, (q, 121), rfl, (hld7.mono s78).mono sB, py, (show upd H8 T2 (.tup [.int q, .str "y"]) T2 = some (.tup ((skP (q, 121)).map kV)) from upd_same), o2, fun H9 s9 c2 => ?_, fun y2 H9 s9 hd => ?_⟩
            · exact ⟨_, rfl, _, rfl, iteT (kk .non _ (s06.trans' (s7.trans' (s78.trans' (sB.trans' s9)))))⟩
            · exact ⟨_, rfl, _, rfl, iteF (next _ y2 H9 _ o2 rfl hd (s7.trans' (s78.trans' (sB.trans' s9))))⟩
          · refine ⟨true, truS y2 hd.pat, iteT ⟨_, rfl, _, rfl, iteF (next _ y2 H8 _ o1 rfl hd (s7.trans' (sA.trans' s8)))⟩⟩
      · rintro σ H7 ⟨y, v5, rfl, s7, py, cy, ay, oy⟩
        exact ⟨_, rfl, kk (.str y) H7 (s06.trans' s7)⟩
def spAgainst : Sp := fun vs H Q _ => ∃ (T : Addr) (n : Nat) (p : An), vs = [.ref T] ∧ H T = some (.tup ((skP p).map kV)) ∧ Ok n p ∧ ∀ T' H', Same H H' → H' T' = some (.tup ((skP (ng p)).map kV)) → Q (.ref T') H'
abbrev N_ag : List Str := ["answer", "question", "sign"]
abbrev P_ag : List Str := ["answer"]
theorem sc_ag : FnScope N_ag P_ag (defScope s_against) := ⟨rfl, rfl, rfl, by decide +kernel, rfl, by decide +kernel, by decide +kernel⟩
theorem ok_against {f fo fs : Addr} {fd go gs : FuncData} (D : Df K mg "against" s_against P_ag f fd) (Do : Df K mg "other" s_other P_ot fo go) (Ds : Df K mg "check_sign" s_csign ["sign"] fs gs) : FnOk P w K mg base (CXE P w) 3 f fd P_ag spAgainst := by
  refine D.F.okN sc_ag (fun vs H Q E h => ?_) (fun cdv A outer s H vs Q E hr h => ?_)
  · obtain ⟨T, n, p, rfl, _⟩ := h
    rfl
  · obtain ⟨T, n, p, rfl, eT, op, k⟩ := h
    refine ⟨_, pss_cons (ps_asg (pv 0) (pg_tup rfl (pgs_cons (pg_name (i := 1) sc_ag.nd rfl (Or.inl rfl)) (pgs_cons (pg_name (i := 2) sc_ag.nd rfl (Or.inl rfl)) pgs_nil))))
      (pss_one (ps_ret (pe_tup (pa_cons (pv 1) (pa_cons (pe_fn Do (ok_other Do Ds) (hr.mono (by decide)) passN (pa_cons (pv 2) pa_nil)) pa_nil))))), ?_⟩
    refine ⟨_, rfl, T, _, rfl, SqT.of eT, rfl, _, _, rfl, _, _, rfl, rfl, ?_⟩
    exact ⟨_, rfl, _, rfl, p.2, rfl, op.2, len_le (show 2 ≤ 100 by decide), fun T' hT' => k T' _ (Same.new hT') upd_same⟩
def spFollE (K : PySem.W.Frag) (BB BQ BG BS : Addr) : Sp := fun vs H Q E => ∃ (c : Int) (l : Addr) (n : Nat) (rs : List Addr) (gs : List GV) (vo : List Vow) (g : GV), vs = [.int c, .ref l] ++ g.vals ∧ Oa K H l c n rs gs vo ∧
  (¬ (1 ≤ c ∧ c ≤ 12) → Ref H E BB "bad count") ∧ ((1 ≤ c ∧ c ≤ 12) → firstG n gs = "no question" → Ref H E BQ "no question") ∧ ((1 ≤ c ∧ c ≤ 12) → firstG n gs = "bad sign" → Ref H E BG "bad sign") ∧
  ((1 ≤ c ∧ c ≤ 12) → firstG n gs = "" → (gW n g = "no question" → Ref H E BQ "no question") ∧ (gW n g = "bad sign" → Ref H E BG "bad sign") ∧ (gW n g = "" → Torn n (EV (esV vo)) → Ref H E BS "torn") ∧ (gW n g = "" → ¬ Torn n (EV (esV vo)) → ∀ v H', Same H H' → Q v H'))
abbrev N_fo : List Str := ["questions", "oaths", "q", "a", "r", "b", "led", "one", "two", "start", "goal", "walk", "pattern"]
abbrev P_fo : List Str := ["questions", "oaths", "q", "a", "r", "b"]
theorem sc_fo : FnScope N_fo P_fo (defScope s_follows) := ⟨rfl, rfl, rfl, by decide +kernel, rfl, by decide +kernel, by decide +kernel⟩
theorem ok_follE {f fc fa fl ft fk fg fw fo fs fh : Addr} {fd gc ga gl gt gk gg gw go gs' gh : FuncData} (D : Df K mg "follows" s_follows P_fo f fd) (Dc : Df K mg "check_oaths" s_coaths P_co fc gc) (Gc : FnOk P w K mg base (CXE P w) 6 fc gc P_co (spCoE K BB BQ BG)) (Da : Df K mg "check_answers" s_cans Pca fa ga) (Ga : FnOk P w K mg base (CXE P w) 5 fa ga Pca (spCaE BQ BG)) (Ds : Df K mg "check_sign" s_csign ["sign"] fs gs')
    (Dl : Df K mg "links" s_links P_li fl gl) (Gl : FnOk P w K mg base (CXE P w) 4 fl gl P_li (spLinks K)) (Dt : Df K mg "torn_walk" s_tornw P_tw ft gt) (Gt : ∀ n, FnOk P w K mg base (CXE P w) 3 ft gt P_tw (spTornw n)) (Dk : Df K mg "walk_to" s_walkto P_wt fk gk) (Gk : ∀ n, FnOk P w K mg base (CXE P w) 2 fk gk P_wt (spWalkto n))
    (Dg : Df K mg "against" s_against P_ag fg gg) (Gg : FnOk P w K mg base (CXE P w) 3 fg gg P_ag spAgainst) (Dw : Df K mg "with_answer" s_with Pwi fw gw) (Do : Df K mg "other" s_other P_ot fo go) (Dh : Df K mg "keeping" s_keeping P_kp fh gh) (Gh : FnOk P w K mg base (CXE P w) 7 fh gh P_kp (spKeepE K BB BQ BG BC)) (X : Xs K mg W BC BS fW fC fS gW' gC gS) : FnOk P w K mg base (CXE P w) 8 f fd P_fo (spFollE K BB BQ BG BS) := by
  refine D.F.okE sc_fo (fun vs H Q E h => ?_) (fun cdv A outer s H vs Q E hr h => ?_)
  · obtain ⟨c, l, n, rs, gs, vo, g, rfl, _⟩ := h
    rfl
  · obtain ⟨c, l, n, rs, gs, vo, gg', rfl, O, k1, k2, k3, k4⟩ := h
    have Gt := Gt n
    have Gk := Gk n
    refine ⟨_, pss_cons (ps_expr (pe_fn Dc Gc (hr.mono (by decide)) passE (pa_cons (pv 0) (pa_cons (pv 1) pa_nil))))
      (pss_cons (ps_expr (pe_fn Da Ga (hr.mono (by decide)) passE (pa_cons (pv 2) (pa_cons (pv 3) (pa_cons (pv 4) (pa_cons (pv 5) (pa_cons (pv 0) pa_nil)))))))
      (pss_cons (ps_set (i := 6) sc_fo.nd rfl (Or.inl rfl) (pe_fn Dl Gl (hr.mono (by decide)) passN (pa_cons (pv 1) pa_nil)))
      (pss_cons (ps_if (pt_cmp (pc_notN (pe_fn Dt Gt (hr.mono (by decide)) passN (pa_cons (pv 0) (pa_cons (pv 6) pa_nil))))) (pss_one (ps_raise rfl passE (pe_xmake0 X.kS X.iS (ok_sinit X) (hr.mono (by decide)) (by rfl) X.mS X.bS passE))) pss_nil)
      (PSs.nox (pss_cons (ps_par (i := 7) (j := 8) rfl sc_fo.nd rfl rfl (by decide) rfl rfl (pa_cons (pe_tup (pa_cons (pv 2) (pa_cons (pv 3) pa_nil))) (pa_cons (pe_tup (pa_cons (pv 4) (pa_cons (pv 5) pa_nil))) pa_nil)) rfl)
      (pss_cons (ps_for PassesOwn.never rfl (pi_tup (pe_tup (pa_cons (pe_tup (pa_cons (pv 7) (pa_cons (pv 8) pa_nil))) (pa_cons (pe_tup (pa_cons (pv 7) (pa_cons (pe_fn Dg Gg (hr.mono (by decide)) passN (pa_cons (pv 7) pa_nil)) pa_nil))) (pa_cons (pe_tup (pa_cons (pe_fn Dg Gg (hr.mono (by decide)) passN (pa_cons (pv 8) pa_nil)) (pa_cons (pv 8) pa_nil))) pa_nil))))) (pg_tup rfl (pgs_cons (pg_name (i := 9) sc_fo.nd rfl (Or.inl rfl)) (pgs_cons (pg_name (i := 10) sc_fo.nd rfl (Or.inl rfl)) pgs_nil)))
      (pss_cons (ps_set (i := 11) sc_fo.nd rfl (Or.inl rfl) (pe_fn Dk Gk (hr.mono (by decide)) passN (pa_cons (pv 6) (pa_cons (pv 9) (pa_cons (pv 10) pa_nil)))))
      (pss_one (ps_if (pt_cmp (pc_notN (pv 11))) (pss_one (ps_ret (pe_tup (pa_cons pe_str (pa_cons (pv 11) pa_nil))))) pss_nil))))
      (pss_cons (ps_set (i := 12) sc_fo.nd rfl (Or.inl rfl) (pe_fn Dw (ok_with Dw) (hr.mono (by decide)) passN (pa_cons (pe_fn Dw (ok_with Dw) (hr.mono (by decide)) passN (pa_cons (pe_op op_rep_str pe_str (pv 0)) (pa_cons (pv 2) (pa_cons (pv 3) pa_nil)))) (pa_cons (pv 4) (pa_cons (pe_fn Do (ok_other Do Ds) (hr.mono (by decide)) passN (pa_cons (pv 5) pa_nil)) pa_nil)))))
      (pss_one (ps_ret (pe_tup (pa_cons pe_str (pa_cons (pe_fn Dh Gh (hr.mono (by decide)) passN (pa_cons (pv 0) (pa_cons (pv 1) (pa_cons (pv 12) pa_nil)))) pa_nil)))))))))))), ?_⟩
    refine ⟨_, rfl, _, rfl, c, l, n, rs, gs, rfl, O.lst, O.gvs, k1, fun c12 => ⟨O.cn c12, k2 c12, k3 c12, fun fg H1 s1' => ?_⟩⟩
    obtain rfl := O.cn c12
    obtain ⟨hv, sg⟩ := O.good fg
    have hl := O.lst
    have l100 := O.len
    have gr := gr_esV sg hv.inn
    have n1 : 1 ≤ n := by omega
    have n12 : n ≤ 12 := by omega
    obtain ⟨kq, ks, kt, kk⟩ := k4 c12 fg
    refine ⟨_, rfl, _, rfl, _, rfl, _, rfl, _, rfl, gg', n, rfl, fun z => (kq z).same s1', fun z => (ks z).same s1', fun z => ?_⟩
    obtain ⟨⟨q1', q2'⟩, sa, sb⟩ := gW_good.mp z
    obtain ⟨ca, ha, ea⟩ := sok_code sa
    obtain ⟨cb, hb, eb⟩ := sok_code sb
    obtain ⟨gq, ga', gr', gb'⟩ := gg'
    have ea : ga' = ⟨#[ca]⟩ := ea
    have eb : gb' = ⟨#[cb]⟩ := eb
    subst ea
    subst eb
    obtain ⟨qn, rfl⟩ : ∃ qn : Nat, gq = qn := ⟨gq.toNat, by have : 0 ≤ gq := q1'.1; omega⟩
    obtain ⟨rn, rfl⟩ : ∃ rn : Nat, gr' = rn := ⟨gr'.toNat, by have : 0 ≤ gr' := q2'.1; omega⟩
    have o1 : Ok n ((qn, ca) : An) := ⟨by have : (qn : Int) < n := q1'.2; show qn < n; omega, ha⟩
    have o2 : Ok n ((rn, cb) : An) := ⟨by have : (rn : Int) < n := q2'.2; show rn < n; omega, hb⟩
    refine ⟨_, rfl, l, n, rs, vo, rfl, s1'.seq hl, hv.mono s1', sg, l100, fun ld H3 kvs s3 _ e3 led => ?_⟩
    have hld : Ld n H3 ld (esV vo) := ⟨⟨kvs, e3, led⟩, gr, n12, by rw [esV_len, ← hv.1]; omega⟩
    have s03 := s1'.trans' s3
    refine ⟨_, rfl, _, rfl, ld, esV vo, rfl, hld, fun nt' H4 s4 => ?_, fun r q ws H4 s4 r0 wa hq wk my lw => ?_⟩
    case refine_2 =>
      refine ⟨_, rfl, iteT ?_⟩
      have T : Torn n (EV (esV vo)) := wk_torn hq wk my
      exact fun ea he => ((kt z T).same (s03.trans' s4)).raise X.kS he
    refine ⟨_, rfl, iteF ?_⟩
    have kfin := kk z nt'
    have s04 := s03.trans' s4
    have hld4 := hld.mono s4
    obtain ⟨one, e1⟩ : ∃ one : An, one = (qn, ca) := ⟨_, rfl⟩
    obtain ⟨two, e2⟩ : ∃ two : An, two = (rn, cb) := ⟨_, rfl⟩
    have x1 : qn = one.1 := by rw [e1]
    have x2 : ca = one.2 := by rw [e1]
    have x3 : rn = two.1 := by rw [e2]
    have x4 : cb = two.2 := by rw [e2]
    rw [← e1] at o1
    rw [← e2] at o2
    subst x1
    subst x2
    subst x3
    subst x4
    refine ⟨.int (one.1 : Nat), rfl, s1 one.2, rfl, len_le (show 2 ≤ 100 by decide), fun A1 hA1 => ⟨.int (two.1 : Nat), rfl, s1 two.2, rfl, len_le (show 2 ≤ 100 by decide), fun A2 hA2 => ?_⟩⟩
    have sA := Same.new (o := .tup [.int one.1, s1 one.2]) hA1
    have sB := Same.new (o := .tup [.int two.1, s1 two.2]) hA2
    have eA := sB _ _ (show upd H4 A1 (.tup [.int one.1, s1 one.2]) A1 = some (.tup ((skP one).map kV)) from upd_same)
    have eB : upd (upd H4 A1 (.tup [.int one.1, s1 one.2])) A2 (.tup [.int two.1, s1 two.2]) A2 = some (.tup ((skP two).map kV)) := upd_same
    have s45 := sA.trans' sB
    generalize upd (upd H4 A1 (.tup [.int one.1, s1 one.2])) A2 (.tup [.int two.1, s1 two.2]) = H5 at *
    refine ⟨_, _, rfl, ?_⟩
    have hld5 := hld4.mono s45
    have s05 := s04.trans' s45
    refine ⟨_, rfl, _, rfl, len_le (show 2 ≤ 100 by decide), fun B1 hB1 => ?_⟩
    have t1 := Same.new (o := .tup [.ref A1, .ref A2]) hB1
    have eB1 : upd H5 B1 (.tup [.ref A1, .ref A2]) B1 = some (.tup [.ref A1, .ref A2]) := upd_same
    generalize upd H5 B1 (.tup [.ref A1, .ref A2]) = H6 at *
    refine ⟨_, rfl, _, rfl, A1, n, one, rfl, t1 _ _ eA, o1, fun C1 H7 s7 eC1 => ⟨len_le (show 2 ≤ 100 by decide), fun B2 hB2 => ?_⟩⟩
    have t2 := Same.new (o := .tup [.ref A1, .ref C1]) hB2
    have eB2 : upd H7 B2 (.tup [.ref A1, .ref C1]) B2 = some (.tup [.ref A1, .ref C1]) := upd_same
    have eC1' := t2 _ _ eC1
    have s58 := t1.trans' (s7.trans' t2)
    have eB1' := (s7.trans' t2) _ _ eB1
    generalize upd H7 B2 (.tup [.ref A1, .ref C1]) = H8 at *
    refine ⟨_, rfl, A2, n, two, rfl, s58 _ _ eB, o2, fun C2 H9 s9 eC2 => ⟨_, rfl, len_le (show 2 ≤ 100 by decide), fun B3 hB3 => ⟨len_le (show 3 ≤ 100 by decide), fun B4 hB4 => ?_⟩⟩⟩
    have t3 := Same.new (o := .tup [.ref C2, .ref A2]) hB3
    have t4 := Same.new (o := .tup [.ref B1, .ref B2, .ref B3]) hB4
    have s8X := s9.trans' (t3.trans' t4)
    have s5X := s58.trans' s8X
    have fB1 := s8X _ _ eB1'
    have fB2 := s8X _ _ eB2
    have fB3 := t4 _ _ (show upd H9 B3 (.tup [.ref C2, .ref A2]) B3 = some (.tup [.ref C2, .ref A2]) from upd_same)
    have fB4 : upd (upd H9 B3 (.tup [.ref C2, .ref A2])) B4 (.tup [.ref B1, .ref B2, .ref B3]) B4 = some (.tup [.ref B1, .ref B2, .ref B3]) := upd_same
    have fA1 := s5X _ _ eA
    have fA2 := s5X _ _ eB
    have fC1 := s8X _ _ eC1'
    have fC2 := (t3.trans' t4) _ _ eC2
    have s0X := s05.trans' s5X
    have hldX := hld5.mono s5X
    generalize upd (upd H9 B3 (.tup [.ref C2, .ref A2])) B4 (.tup [.ref B1, .ref B2, .ref B3]) = HX at *
    clear t1 t2 t3 t4 s9 s7 s8X s5X s58 eC1 eC1' eB1 eB1' eB2 eC2 eA eB sA sB s45 hld5 hld4 hld led e3
    refine ⟨B4, rfl, ⟨_, SqT.of fB4⟩, ?_⟩
    refine for_tup (K := K) (a := B4) (xs := [.ref B1, .ref B2, .ref B3]) (fun i σ H6 => ∃ v9 v10 v11, σ = [some (.int n), some (.ref l), some (.int one.1), some (s1 one.2), some (.int two.1), some (s1 two.2), some (.ref ld), some (.ref A1), some (.ref A2), v9, v10, v11, none] ∧ Same HX H6 ∧ ∀ (j : Nat) (st g : An), j < i → [((one, two) : An × An), (one, ng one), (ng two, two)][j]? = some (st, g) → ¬ Rch (EV (esV vo)) st g) ⟨_, _, _, rfl, Same.refl _, fun j st g h => absurd h (Nat.not_lt_zero _)⟩ (fun i σ H6 _ ⟨_, _, _, _, s6, _⟩ => SqT.of (s6 _ _ fB4)) ?_ ?_
    · rintro j y σ H6 hj ⟨v9, v10, v11, rfl, s6, no⟩
      obtain ⟨b, S, G, st, g, rfl, eb, eS, eG, ost, en, pj⟩ : ∃ (b S G : Addr) (st g : An), y = .ref b ∧ H6 b = some (.tup [.ref S, .ref G]) ∧ H6 S = some (.tup ((skP st).map kV)) ∧ H6 G = some (.tup ((skP g).map kV)) ∧ Ok n st ∧ Ends3 one two st g ∧ [((one, two) : An × An), (one, ng one), (ng two, two)][j]? = some (st, g) := by
        match j, hj with
        | 0, hj => cases hj; exact ⟨B1, A1, A2, one, two, rfl, s6 _ _ fB1, s6 _ _ fA1, s6 _ _ fA2, o1, .inl ⟨rfl, rfl⟩, rfl⟩
        | 1, hj => cases hj; exact ⟨B2, A1, C1, one, ng one, rfl, s6 _ _ fB2, s6 _ _ fA1, s6 _ _ fC1, o1, .inr (.inl ⟨rfl, rfl⟩), rfl⟩
        | 2, hj => cases hj; exact ⟨B3, C2, A2, ng two, two, rfl, s6 _ _ fB3, s6 _ _ fC2, s6 _ _ fA2, o2.ng, .inr (.inr ⟨rfl, rfl⟩), rfl⟩
        | j + 3, hj => cases hj
      refine ⟨b, _, rfl, SqT.of eb, rfl, _, _, rfl, _, _, rfl, rfl, ?_⟩
      refine ⟨_, rfl, _, rfl, _, rfl, ld, S, G, esV vo, st, g, rfl, hldX.mono s6, eS, eG, ost, fun nr H7 s7 => ?_, fun lw ws H7 s7 l0 wa wk lw' => ?_⟩
      · refine ⟨_, rfl, _, rfl, iteF ⟨_, _, _, rfl, s6.trans' s7, fun j' st' g' hj' hp' => ?_⟩⟩
        by_cases c : j' < j
        · exact no j' st' g' c hp'
        · have e : j' = j := by omega
          subst e
          rw [pj] at hp'
          cases hp'
          exact nr
      · refine ⟨_, rfl, _, rfl, iteT ⟨_, rfl, len_le (show 2 ≤ 100 by decide), fun T hT => ?_⟩⟩
        have sT := Same.new (o := .tup [.str "walk", .ref lw]) hT
        exact kfin (.ref T) _ (s0X.trans' (s6.trans' (s7.trans' sT)))
    · rintro σ H6 ⟨v9, v10, v11, rfl, s6, no⟩
      have h1 : ¬ Rch (EV (esV vo)) one two := no 0 _ _ (show 0 < 3 by decide) rfl
      have h2 : ¬ Rch (EV (esV vo)) one (ng one) := no 1 _ _ (show 1 < 3 by decide) rfl
      have h3 : ¬ Rch (EV (esV vo)) (ng two) two := no 2 _ _ (show 2 < 3 by decide) rfl
      have ne : one ≠ two := fun w => h1 (by rw [w]; exact .refl _)
      have q1 := o1.1
      have q2 := o2.1
      refine ⟨_, rfl, _, _, rfl, rfl, by omega, by omega, by decide, _, rfl, _, rfl, _, n, one.1, one.2, rfl, by rw [tx_rep, tx_len], q1, by omega, _, rfl, _, rfl, two.2, rfl, o2.2, _, n, two.1, nt two.2, rfl, tx_len _ _, q2, by omega, ?_⟩
      rw [tx_rep]
      have P2 : Pt2 n one two (tx n (setC (tx n (setC (tx n fun _ => 45) one.1 one.2)) two.1 (nt two.2))) := by
        have at_ : ∀ i, i < n → ch (tx n (setC (tx n (setC (tx n fun _ => 45) one.1 one.2)) two.1 (nt two.2))) i = if i = two.1 then nt two.2 else if i = one.1 then one.2 else 45 := fun i hi => by
          rw [ch_tx hi]
          show (if i = two.1 then nt two.2 else ch (tx n (setC (tx n fun _ => 45) one.1 one.2)) i) = _
          rw [ch_tx hi]
          show (if i = two.1 then nt two.2 else (if i = one.1 then one.2 else ch (tx n fun _ => 45) i)) = _
          rw [ch_tx hi]
        refine ⟨⟨tx_len _ _, fun i hi => ?_⟩, at_⟩
        rw [at_ i hi]
        split
        · exact (nt_sg _).imp id .inl
        · split
          · exact o1.2.imp id .inl
          · exact .inr (.inr rfl)
      generalize tx n (setC (tx n (setC (tx n fun _ => 45) one.1 one.2)) two.1 (nt two.2)) = x at *
      have s06 := s0X.trans' s6
      have O6 := O.mono s06
      refine ⟨_, rfl, _, rfl, _, rfl, (n : Int), l, n, rs, gs, vo, x, rfl, O6, by rw [P2.pat.len]; omega, (fun h => absurd c12 h), (fun _ h => by rw [h] at fg; exact absurd fg (by decide)), (fun _ h => by rw [h] at fg; exact absurd fg (by decide)), (fun _ _ h => absurd P2.pat h), fun _ _ _ v H7 s7 => ⟨len_le (show 2 ≤ 100 by decide), fun T hT => ?_⟩⟩
      exact kfin (.ref T) _ (s06.trans' (s7.trans' (Same.new hT)))
end
end K28
set_option Elab.async false
set_option linter.all false
set_option maxRecDepth 100000
set_option maxHeartbeats 1000000
namespace K28
open PySem L2
open PyProof.Rows (envOfC)
abbrev s_fault : Stmt := top 45
abbrev s_first : Stmt := top 46
abbrev s_spoilt : Stmt := top 44
theorem in_yn (a : Str) : inV (.str a) [.str "y", .str "n"] = decide (SOk a) := by
  rw [Bool.eq_iff_iff, decide_eq_true_iff]
  unfold inV SOk
  have e : ∀ x y : Str, eqV (.str x) (.str y) = true ↔ x = y := fun x y => by
    show (x == y) = true ↔ _
    rw [beq_iff_eq]
  simp only [List.any_cons, List.any_nil, Bool.or_false, Bool.or_eq_true, e]
  constructor
  · rintro (h | h)
    · exact .inl h.symm
    · exact .inr h.symm
  · rintro (h | h)
    · exact .inl h.symm
    · exact .inr h.symm
theorem four_int (a b c d y : Int) : ∃ z : Int, atI [V.int a, .int b, .int c, .int d] (y % 4) = some (.int z) := by
  have : y % 4 = 0 ∨ y % 4 = 1 ∨ y % 4 = 2 ∨ y % 4 = 3 := by omega
  rcases this with e | e | e | e <;> rw [e]
  · exact ⟨a, rfl⟩
  · exact ⟨b, rfl⟩
  · exact ⟨c, rfl⟩
  · exact ⟨d, rfl⟩
theorem four_str (a b c d : Str) (y : Int) : ∃ z : Str, atI [V.str a, .str b, .str c, .str d] (y % 4) = some (.str z) := by
  have : y % 4 = 0 ∨ y % 4 = 1 ∨ y % 4 = 2 ∨ y % 4 = 3 := by omega
  rcases this with e | e | e | e <;> rw [e]
  · exact ⟨a, rfl⟩
  · exact ⟨b, rfl⟩
  · exact ⟨c, rfl⟩
  · exact ⟨d, rfl⟩
section
variable {P : Program} {w : World} {K : PySem.W.Frag} {mg : Str → Option Value} {base : Heap}
def spFault (K : PySem.W.Frag) : Sp := fun vs H Q _ => ∃ (T : Addr) (g : GV) (n : Nat), vs = [.ref T, .int n] ∧ SqT K H T g.vals ∧ ∀ H', Same H H' → Q (.str (gW n g)) H'
abbrev N_fa : List Str := ["_law_vow", "_law_n"]
abbrev P_fa : List Str := ["_law_vow", "_law_n"]
theorem sc_fa : FnScope N_fa P_fa (defScope s_fault) := ⟨rfl, rfl, rfl, by decide +kernel, rfl, by decide +kernel, by decide +kernel⟩
theorem ok_fault {f : Addr} {fd : FuncData} (D : Df K mg "_law_fault" s_fault P_fa f fd) : FnOk P w K mg base (CXE P w) 1 f fd P_fa (spFault K) := by
  refine D.F.okN sc_fa (fun vs H Q E h => ?_) (fun cdv A outer s H vs Q E hr h => ?_)
  · obtain ⟨T, g, n, rfl, _⟩ := h
    rfl
  · obtain ⟨T, g, n, rfl, hT, k⟩ := h
    refine ⟨_, pss_cons (ps_if (PW.pt (pw_or (pt_cmpR op_lt (pe_ix ix_tup (pv 0) pe_int (fun _ _ => rfl)) pe_int (nomark _)) (pw_or (pt_cmpR op_ge (pe_ix ix_tup (pv 0) pe_int (fun _ _ => rfl)) (pv 1) (nomark _)) (pw_or (pt_cmpR op_lt (pe_ix ix_tup (pv 0) pe_int (fun _ _ => rfl)) pe_int (nomark _)) (pw_or1 (pt_cmpR op_ge (pe_ix ix_tup (pv 0) pe_int (fun _ _ => rfl)) (pv 1) (nomark _))))))) (pss_one (ps_ret pe_str)) pss_nil)
      (pss_cons (ps_if (PW.pt (pw_or (pt_cmpR op_notIn_seq (pe_ix ix_tup (pv 0) pe_int (fun _ _ => rfl)) (pe_tup (pa_cons pe_str (pa_cons pe_str pa_nil))) (by rfl)) (pw_or1 (pt_cmpR op_notIn_seq (pe_ix ix_tup (pv 0) pe_int (fun _ _ => rfl)) (pe_tup (pa_cons pe_str (pa_cons pe_str pa_nil))) (by rfl))))) (pss_one (ps_ret pe_str)) pss_nil)
      (pss_one (ps_ret pe_str))), ?_⟩
    have a0 : atI g.vals 0 = some (.int g.q) := rfl
    have a1 : atI g.vals 1 = some (.str g.a) := rfl
    have a2 : atI g.vals 2 = some (.int g.r) := rfl
    have a3 : atI g.vals 3 = some (.str g.b) := rfl
    have noq : ¬ (QOk n g.q ∧ QOk n g.r) → Q (.str "no question") H := fun h => by
      have := k H (Same.refl H)
      rw [show gW n g = "no question" by unfold gW; rw [if_pos h]] at this
      exact this
    refine ⟨_, rfl, T, _, _, _, rfl, rfl, hT, a0, _, _, rfl, rfl, _, rfl, ite2 (fun z => iteT (noq fun w => ?_)) (fun z1 => ?_)⟩
    · have z : g.q < 0 := of_decide_eq_true z
      have := w.1.1; omega
    have z1 : ¬ g.q < 0 := fun w => z1 (decide_eq_true w)
    refine ⟨_, rfl, T, _, _, _, rfl, rfl, hT, a0, _, rfl, _, _, rfl, rfl, _, rfl, ite2 (fun z => iteT (noq fun w => ?_)) (fun z2 => ?_)⟩
    · have z : g.q ≥ (n : Int) := of_decide_eq_true z
      have := w.1.2; omega
    have z2 : ¬ g.q ≥ (n : Int) := fun w => z2 (decide_eq_true w)
    refine ⟨_, rfl, T, _, _, _, rfl, rfl, hT, a2, _, _, rfl, rfl, _, rfl, ite2 (fun z => iteT (noq fun w => ?_)) (fun z3 => ?_)⟩
    · have z : g.r < 0 := of_decide_eq_true z
      have := w.2.1; omega
    have z3 : ¬ g.r < 0 := fun w => z3 (decide_eq_true w)
    refine ⟨_, rfl, T, _, _, _, rfl, rfl, hT, a2, _, rfl, _, _, rfl, rfl, _, rfl, ite2 (fun z => noq fun w => ?_) (fun z4 => ?_)⟩
    · have z : g.r ≥ (n : Int) := of_decide_eq_true z
      have := w.2.2; omega
    have z4 : ¬ g.r ≥ (n : Int) := fun w => z4 (decide_eq_true w)
    have qk : ¬ ¬ (QOk n g.q ∧ QOk n g.r) := fun w => w ⟨⟨by omega, by omega⟩, ⟨by omega, by omega⟩⟩
    have bad : ∀ H', Same H H' → ¬ (SOk g.a ∧ SOk g.b) → Q (.str "bad sign") H' := fun H' s' h => by
      have := k H' s'
      rw [show gW n g = "bad sign" by unfold gW; rw [if_neg qk, if_pos h]] at this
      exact this
    refine ⟨_, rfl, T, _, _, _, rfl, rfl, hT, a1, len_le (show 2 ≤ 100 by decide), fun A1 hA1 => ?_⟩
    have sA := Same.new (o := .tup [.str "y", .str "n"]) hA1
    refine ⟨A1, _, rfl, .inr (SqT.of upd_same), rfl, rfl, _, rfl, ?_⟩
    show if (!inV (.str g.a) [.str "y", .str "n"]) = true then _ else _
    rw [in_yn]
    by_cases c1 : SOk g.a
    case neg =>
      rw [decide_eq_false c1]
      exact iteT (iteT (bad _ sA fun w => c1 w.1))
    rw [decide_eq_true c1]
    refine iteF ⟨_, rfl, T, _, _, _, rfl, rfl, sA.seqT hT, a3, len_le (show 2 ≤ 100 by decide), fun A2 hA2 => ?_⟩
    have sB := sA.trans' (Same.new (o := .tup [.str "y", .str "n"]) hA2)
    refine ⟨A2, _, rfl, .inr (SqT.of upd_same), rfl, rfl, _, rfl, ?_⟩
    show if (!inV (.str g.b) [.str "y", .str "n"]) = true then _ else _
    rw [in_yn]
    by_cases c2 : SOk g.b
    case neg =>
      rw [decide_eq_false c2]
      exact iteT (bad _ sB fun w => c2 w.2)
    rw [decide_eq_true c2]
    have := k _ sB
    rw [show gW n g = "" by unfold gW; rw [if_neg qk, if_neg fun w => w ⟨c1, c2⟩]] at this
    exact iteF this
def fstW (c : Int) (n : Nat) (gs : List GV) : Str := if 1 ≤ c ∧ c ≤ 12 then firstG n gs else "bad count"
def spFirst (K : PySem.W.Frag) : Sp := fun vs H Q _ => ∃ (c : Int) (l : Addr) (n : Nat) (rs : List Addr) (gs : List GV), vs = [.int c, .int n, .ref l] ∧ SqL K H l (rs.map V.ref) ∧ GVs K H rs gs ∧ ∀ H', Same H H' → Q (.str (fstW c n gs)) H'
abbrev N_fi : List Str := ["_law_count_here", "_law_n", "_law_vows_here", "_law_vow"]
abbrev P_fi : List Str := ["_law_count_here", "_law_n", "_law_vows_here"]
theorem sc_fi : FnScope N_fi P_fi (defScope s_first) := ⟨rfl, rfl, rfl, by decide +kernel, rfl, by decide +kernel, by decide +kernel⟩
theorem ok_first {f ff : Addr} {fd gf : FuncData} (D : Df K mg "_law_first" s_first P_fi f fd) (Df' : Df K mg "_law_fault" s_fault P_fa ff gf) : FnOk P w K mg base (CXE P w) 2 f fd P_fi (spFirst K) := by
  refine D.F.okN sc_fi (fun vs H Q E h => ?_) (fun cdv A outer s H vs Q E hr h => ?_)
  · obtain ⟨c, l, n, rs, gs, rfl, _⟩ := h
    rfl
  · obtain ⟨c, l, n, rs, gs, rfl, hl, hg, k⟩ := h
    refine ⟨_, pss_cons (ps_if (PW.pt (pw_or (pt_cmpR op_lt (pv 0) pe_int (nomark _)) (pw_or1 (pt_cmpR op_gt (pv 0) pe_int (nomark _))))) (pss_one (ps_ret pe_str)) pss_nil)
      (pss_cons (ps_for PassesOwn.never rfl (pi_list (pv 2)) (pg_name (i := 3) sc_fi.nd rfl (Or.inl rfl))
      (pss_one (ps_if (pt_cmpR op_ne (pe_fn Df' (ok_fault Df') (hr.mono (by decide)) passN (pa_cons (pv 3) (pa_cons (pv 1) pa_nil))) pe_str (nomark _)) (pss_one (ps_ret (pe_fn Df' (ok_fault Df') (hr.mono (by decide)) passN (pa_cons (pv 3) (pa_cons (pv 1) pa_nil))))) pss_nil)))
      (pss_one (ps_ret pe_str))), ?_⟩
    have badc : ¬ (1 ≤ c ∧ c ≤ 12) → Q (.str "bad count") H := fun h => by
      have := k H (Same.refl H)
      rw [show fstW c n gs = "bad count" from if_neg h] at this
      exact this
    refine ⟨_, rfl, _, _, rfl, rfl, _, rfl, ite2 (fun z => iteT (badc ?_)) (fun z1 => ?_)⟩
    · have z : c < 1 := of_decide_eq_true z
      omega
    have z1 : ¬ c < 1 := fun w => z1 (decide_eq_true w)
    refine ⟨_, rfl, _, _, rfl, rfl, _, rfl, ite2 (fun z => badc ?_) (fun z2 => ?_)⟩
    · have z : (12 : Int) < c := of_decide_eq_true z
      omega
    have z2 : ¬ (12 : Int) < c := fun w => z2 (decide_eq_true w)
    have c12 : 1 ≤ c ∧ c ≤ 12 := by omega
    have k' : ∀ H', Same H H' → Q (.str (firstG n gs)) H' := fun H' s' => by
      have := k H' s'
      rw [show fstW c n gs = firstG n gs from if_pos c12] at this
      exact this
    refine ⟨_, rfl, l, rfl, ⟨_, hl⟩, ?_⟩
    refine for_list (K := K) (a := l) (xs := rs.map V.ref) (fun i σ H2 => ∃ v3, σ = [some (.int c), some (.int n), some (.ref l), v3] ∧ Same H H2 ∧ ∀ (j : Nat) u, j < i → gs[j]? = some u → gW n u = "") ⟨_, rfl, Same.refl _, fun j u h => absurd h (Nat.not_lt_zero _)⟩ (fun i σ H2 _ ⟨_, _, s2, _⟩ => s2.seq hl) ?_ ?_
    · rintro i y σ H2 hi ⟨v3, rfl, s2, al⟩
      obtain ⟨r, g, rfl, _, hg', ho⟩ := hg.at hi
      refine ⟨_, rfl, _, rfl, r, g, n, rfl, s2.seqT ho, fun H3 s3 => ⟨rfl, _, rfl, ?_⟩⟩
      show if (!decide (V.str (gW n g) = V.str ("" : Str))) = true then _ else _
      by_cases z : gW n g = ""
      · rw [show decide (V.str (gW n g) = V.str ("" : Str)) = true from decide_eq_true (by rw [z])]
        refine iteF ⟨_, rfl, s2.trans' s3, fun j u hj hu => ?_⟩
        by_cases c : j < i
        · exact al j u c hu
        · have e : j = i := by omega
          subst e
          rw [hg'] at hu
          cases hu
          exact z
      · rw [show decide (V.str (gW n g) = V.str ("" : Str)) = false from decide_eq_false (fun w => z (by injection w))]
        refine iteT ⟨_, rfl, _, rfl, r, g, n, rfl, (s2.trans' s3).seqT ho, fun H4 s4 => ?_⟩
        have := k' H4 (s2.trans' (s3.trans' s4))
        rw [firstG_at al hg' z] at this
        exact this
    · rintro σ H2 ⟨v3, rfl, s2, al⟩
      have := k' H2 s2
      rw [firstG_all fun j u hu => al j u (by rw [List.length_map, hg.1]; exact (List.getElem?_eq_some_iff.mp hu).1) hu] at this
      exact this
def spSpoilt (K : PySem.W.Frag) : Sp := fun vs H Q _ => ∃ (T : Addr) (g : GV) (x : Int) (n : Nat), vs = [.ref T, .int x, .int n] ∧ SqT K H T g.vals ∧ n ≤ 12 ∧ ∀ T' g' H', Same H H' → H' T' = some (.tup (GV.vals g')) → Q (.ref T') H'
abbrev N_sp : List Str := ["_law_vow", "_law_number", "_law_n", "_law_found", "_law_at"]
abbrev P_sp : List Str := ["_law_vow", "_law_number", "_law_n"]
theorem sc_sp : FnScope N_sp P_sp (defScope s_spoilt) := ⟨rfl, rfl, rfl, by decide +kernel, rfl, by decide +kernel, by decide +kernel⟩
theorem ok_spoilt {f : Addr} {fd : FuncData} (D : Df K mg "_law_spoilt" s_spoilt P_sp f fd) (B : Bt mg) : FnOk P w K mg base (CXE P w) 1 f fd P_sp (spSpoilt K) := by
  refine D.F.okN sc_sp (fun vs H Q E h => ?_) (fun cdv A outer s H vs Q E hr h => ?_)
  · obtain ⟨T, g, x, n, rfl, _⟩ := h
    rfl
  · obtain ⟨T, g, x, n, rfl, hT, n12, k⟩ := h
    refine ⟨_, pss_cons (ps_set (i := 3) sc_sp.nd rfl (Or.inl rfl) (pe_callTy call_list_of (by rfl) B.list (by rfl) (pa_cons (pv 0) pa_nil)))
      (pss_cons (ps_set (i := 4) sc_sp.nd rfl (Or.inl rfl) (pe_op op_mod (pv 1) pe_int))
      (pss_cons (ps_if (pt_cmpR op_in_seq (pv 4) (pe_tup (pa_cons pe_int (pa_cons pe_int pa_nil))) (by rfl)) (pss_one (ps_asg (pe_ix ix_list (pe_lst (pa_cons (pe_un un_neg pe_int) (pa_cons (pv 2) (pa_cons (pe_op op_add (pv 2) pe_int) (pa_cons (pe_un un_neg (pe_op op_pow pe_int pe_int)) pa_nil))))) (pe_op op_mod (pe_op op_fdiv (pv 1) pe_int) pe_int) (fun _ _ => rfl)) (pg_sub (pv 3) (pv 4) set_list))) (pss_one (ps_asg (pe_ix ix_list (pe_lst (pa_cons pe_str (pa_cons pe_str (pa_cons pe_str (pa_cons pe_str pa_nil))))) (pe_op op_mod (pe_op op_fdiv (pv 1) pe_int) pe_int) (fun _ _ => rfl)) (pg_sub (pv 3) (pv 4) set_list))))
      (pss_one (ps_ret (pe_callTy call_tuple_of (by rfl) B.tuple (by rfl) (pa_cons (pv 3) pa_nil)))))), ?_⟩
    refine ⟨_, rfl, T, _, rfl, .inr hT, fun l hl => ?_⟩
    have sl := Same.new (o := .lst g.vals) hl
    have el : upd H l (.lst g.vals) l = some (.lst g.vals) := upd_same
    generalize upd H l (.lst g.vals) = H1 at *
    refine ⟨_, rfl, _, _, rfl, rfl, (show (0 : Int) < 4 by decide), ?_⟩
    have m4 : x % 4 = 0 ∨ x % 4 = 1 ∨ x % 4 = 2 ∨ x % 4 = 3 := by omega
    refine ⟨_, rfl, len_le (show 2 ≤ 100 by decide), fun A1 hA1 => ?_⟩
    have sA := Same.new (o := .tup [.int 0, .int 2]) hA1
    have s0A := sl.trans' sA
    have elA := sA _ _ el
    refine ⟨A1, _, rfl, .inr (SqT.of upd_same), rfl, rfl, _, rfl, ?_⟩
    show if inV (.int (x % 4)) [.int 0, .int 2] = true then _ else _
    generalize upd H1 A1 (.tup [.int 0, .int 2]) = H2 at *
    rcases m4 with e | e | e | e
    · rw [show inV (.int (x % 4)) [.int 0, .int 2] = true by rw [e]; rfl]
      refine iteT ⟨_, rfl, _, rfl, _, rfl, _, _, rfl, rfl, _, _, rfl, rfl, (show (0 : Int) ≤ 40 ∧ (40 : Int) ≤ 1000000 ∧ (10 : Int).natAbs < 2 ^ 64 by decide), _, rfl, len_le (show 4 ≤ 100 by decide), fun L hL => ?_⟩
      have hLl : L ≠ l := fun w => by rw [w, elA] at hL; cases hL
      obtain ⟨z, atz⟩ := four_int (-1) (n : Int) ((n : Int) + 12) (-(10 ^ (40 : Int).toNat)) (x / 4)
      refine ⟨_, rfl, _, _, rfl, rfl, ⟨by decide, by decide⟩, _, _, rfl, rfl, (show (0 : Int) < 4 by decide), L, _, _, _, rfl, rfl, SqL.of upd_same, atz, ?_⟩
      have sL := Same.new (o := .lst [.int (-1), .int (n : Int), .int ((n : Int) + 12), .int (-(10 ^ (40 : Int).toNat))]) hL
      refine ⟨_, rfl, _, rfl, l, _, _, 0, rfl, rfl, sL _ _ elA, (show ixN 4 (x % 4) = some _ by rw [e]; rfl), ?_⟩
      refine ⟨_, rfl, l, _, rfl, .inl ⟨SqL.of upd_same, fun T' hT' => k T' ⟨z, g.a, g.r, g.b⟩ _ ((Same.grow hl (s0A.trans' sL)).trans' (Same.new hT')) upd_same⟩⟩
    · rw [show inV (.int (x % 4)) [.int 0, .int 2] = false by rw [e]; rfl]
      refine iteF ⟨len_le (show 4 ≤ 100 by decide), fun L hL => ?_⟩
      obtain ⟨z, atz⟩ := four_str "" "-" "yn" "Y" (x / 4)
      refine ⟨_, rfl, _, _, rfl, rfl, ⟨by decide, by decide⟩, _, _, rfl, rfl, (show (0 : Int) < 4 by decide), L, _, _, _, rfl, rfl, SqL.of upd_same, atz, ?_⟩
      have sL := Same.new (o := .lst [.str "", .str "-", .str "yn", .str "Y"]) hL
      refine ⟨_, rfl, _, rfl, l, _, _, 1, rfl, rfl, sL _ _ elA, (show ixN 4 (x % 4) = some _ by rw [e]; rfl), ?_⟩
      refine ⟨_, rfl, l, _, rfl, .inl ⟨SqL.of upd_same, fun T' hT' => k T' ⟨g.q, z, g.r, g.b⟩ _ ((Same.grow hl (s0A.trans' sL)).trans' (Same.new hT')) upd_same⟩⟩
    · rw [show inV (.int (x % 4)) [.int 0, .int 2] = true by rw [e]; rfl]
      refine iteT ⟨_, rfl, _, rfl, _, rfl, _, _, rfl, rfl, _, _, rfl, rfl, (show (0 : Int) ≤ 40 ∧ (40 : Int) ≤ 1000000 ∧ (10 : Int).natAbs < 2 ^ 64 by decide), _, rfl, len_le (show 4 ≤ 100 by decide), fun L hL => ?_⟩
      have hLl : L ≠ l := fun w => by rw [w, elA] at hL; cases hL
      obtain ⟨z, atz⟩ := four_int (-1) (n : Int) ((n : Int) + 12) (-(10 ^ (40 : Int).toNat)) (x / 4)
      refine ⟨_, rfl, _, _, rfl, rfl, ⟨by decide, by decide⟩, _, _, rfl, rfl, (show (0 : Int) < 4 by decide), L, _, _, _, rfl, rfl, SqL.of upd_same, atz, ?_⟩
      have sL := Same.new (o := .lst [.int (-1), .int (n : Int), .int ((n : Int) + 12), .int (-(10 ^ (40 : Int).toNat))]) hL
      refine ⟨_, rfl, _, rfl, l, _, _, 2, rfl, rfl, sL _ _ elA, (show ixN 4 (x % 4) = some _ by rw [e]; rfl), ?_⟩
      refine ⟨_, rfl, l, _, rfl, .inl ⟨SqL.of upd_same, fun T' hT' => k T' ⟨g.q, g.a, z, g.b⟩ _ ((Same.grow hl (s0A.trans' sL)).trans' (Same.new hT')) upd_same⟩⟩
    · rw [show inV (.int (x % 4)) [.int 0, .int 2] = false by rw [e]; rfl]
      refine iteF ⟨len_le (show 4 ≤ 100 by decide), fun L hL => ?_⟩
      obtain ⟨z, atz⟩ := four_str "" "-" "yn" "Y" (x / 4)
      refine ⟨_, rfl, _, _, rfl, rfl, ⟨by decide, by decide⟩, _, _, rfl, rfl, (show (0 : Int) < 4 by decide), L, _, _, _, rfl, rfl, SqL.of upd_same, atz, ?_⟩
      have sL := Same.new (o := .lst [.str "", .str "-", .str "yn", .str "Y"]) hL
      refine ⟨_, rfl, _, rfl, l, _, _, 3, rfl, rfl, sL _ _ elA, (show ixN 4 (x % 4) = some _ by rw [e]; rfl), ?_⟩
      refine ⟨_, rfl, l, _, rfl, .inl ⟨SqL.of upd_same, fun T' hT' => k T' ⟨g.q, g.a, g.r, z⟩ _ ((Same.grow hl (s0A.trans' sL)).trans' (Same.new hT')) upd_same⟩⟩
end
end K28
set_option Elab.async false
set_option linter.all false
set_option maxRecDepth 100000
set_option maxHeartbeats 1000000
namespace K28
open PySem L2
open PyProof.Rows (envOfC)
theorem ynd_iff {a : Nat} : a ∈ ("yn-" : Str).cps.toList ↔ (a = 121 ∨ a = 110 ∨ a = 45) := by
  show a ∈ [121, 110, 45] ↔ _
  simp
section
variable {P : Program} {w : World} {K : PySem.W.Frag} {mg : Str → Option Value} {base : Heap} {C fi fa ft fy fm fc : Addr} {gi ga gt gy gm gc : FuncData} {W BC BS fW fC fS : Addr} {gW gC gS : FuncData}
variable {f cc Pt : Addr}
end
end K28
set_option Elab.async false
set_option linter.all false
set_option maxRecDepth 100000
set_option maxHeartbeats 4000000
namespace K28
open PySem L2
open PyProof.Rows (envOfC)
def ptB (n : Nat) (x : Str) : Bool := decide (x.length = n) && ((List.range x.length).map fun i => inG "yn-" (ch x i)).all id
theorem ynd_all {n : Nat} {x : Str} (hl : x.length = n) : ((List.range x.length).map fun i => inG "yn-" (ch x i)).all id = true ↔ Pat n x := by
  rw [List.all_eq_true]
  constructor
  · intro h
    refine ⟨hl, fun i hi => ?_⟩
    exact ynd_iff.mp (of_decide_eq_true (h _ (List.mem_map.mpr ⟨i, List.mem_range.mpr (by omega), rfl⟩)))
  · rintro h b hb
    obtain ⟨i, hi, rfl⟩ := List.mem_map.mp hb
    exact decide_eq_true (ynd_iff.mpr (h.sgn i (by have := List.mem_range.mp hi; omega)))
theorem ptB_iff {n : Nat} {x : Str} : ptB n x = true ↔ Pat n x := by
  unfold ptB
  rw [Bool.and_eq_true]
  constructor
  · rintro ⟨h1, h2⟩
    exact (ynd_all (of_decide_eq_true h1)).mp h2
  · intro h
    exact ⟨decide_eq_true h.len, (ynd_all h.len).mpr h⟩
section
variable {P : Program} {w : World} {K : PySem.W.Frag} {mg : Str → Option Value} {base : Heap} {C fi fa ft fy fm fc : Addr} {gi ga gt gy gm gc : FuncData} {W BC BS fW fC fS : Addr} {gW gC gS : FuncData}
variable {f cc Pt : Addr}
end
end K28
set_option Elab.async false
set_option linter.all false
namespace L2
open PySem
section
variable {X : Cx}
def rListOf (K : PySem.W.Frag) : List V → Hp → VK → Prop := fun xs H Q => ∃ p ys, xs = [V.ref p] ∧ (SqL K H p ys ∨ SqT K H p ys) ∧ ∀ l, H l = none → Q (V.ref l) (upd H l (.lst ys))
theorem call_listK {K : PySem.W.Frag} (hK : X.K = K) : CallR X (.type "list") (rListOf K) := by
  subst hK
  exact call_list_of
end
end L2
set_option Elab.async false
set_option linter.all false
set_option maxRecDepth 100000
set_option maxHeartbeats 4000000
namespace K28
open PySem L2
open PyProof.Rows (envOfC)
abbrev s_asked : Stmt := top 47
def qA : Str := "_law_asked" ++ ".<locals>." ++ "<lambda>"
theorem TabOk.ne {H : Hp} {Pt b : Addr} {o : HO} (t : TabOk H Pt qA) (e : H b = some o) (n : ∀ ps, o ≠ .tbl ps) : b ≠ Pt := fun z => by
  obtain ⟨ps, hp, _⟩ := t.ex
  rw [z, hp] at e; cases e; exact n _ rfl
theorem keepP {H H' : Hp} {Pt b : Addr} {o : HO} (t : TabOk H Pt qA) (s : SameP Pt H H') (e : H b = some o) (n : ∀ ps, o ≠ .tbl ps) : H' b = some o := s _ _ (TabOk.ne t e n) e
theorem seqT_P {K : PySem.W.Frag} {H H' : Hp} {Pt a : Addr} {xs : List V} (T : TabOk H Pt qA) (s : SameP Pt H H') (h : SqT K H a xs) : SqT K H' a xs := by
  rcases h with (h | ⟨o, h⟩) | h
  · exact .inl (.inl (keepP T s h (fun ps z => by cases z)))
  · exact .inl (.inr ⟨o, keepP T s h (fun ps z => by cases z)⟩)
  · exact .inr h
theorem seqL_P {K : PySem.W.Frag} {H H' : Hp} {Pt a : Addr} {xs : List V} (T : TabOk H Pt qA) (s : SameP Pt H H') (h : SqL K H a xs) : SqL K H' a xs := by
  rcases h with (h | ⟨o, h⟩) | h
  · exact .inl (.inl (keepP T s h (fun ps z => by cases z)))
  · exact .inl (.inr ⟨o, keepP T s h (fun ps z => by cases z)⟩)
  · exact .inr h
theorem Oa.monoP {K : PySem.W.Frag} {H H' : Hp} {Pt l : Addr} {c : Int} {n : Nat} {rs : List Addr} {gs : List GV} {vo : List Vow} (T : TabOk H Pt qA) (s : SameP Pt H H') (h : Oa K H l c n rs gs vo) : Oa K H' l c n rs gs vo :=
  ⟨seqL_P T s h.lst, ⟨h.gvs.1, fun i r v a b => seqT_P T s (h.gvs.2 i r v a b)⟩, h.len, h.cn, fun g => ⟨⟨(h.good g).1.1, fun i r v a b => ⟨seqT_P T s ((h.good g).1.2 i r v a b).1, ((h.good g).1.2 i r v a b).2⟩⟩, (h.good g).2⟩⟩
structure FA (K : PySem.W.Frag) (Pt : Addr) (H0 H : Hp) (l TA : Addr) (c : Int) (n : Nat) (rs : List Addr) (gs : List GV) (vo : List Vow) (g : GV) (x : Str) : Prop where
  tb : TabOk H Pt qA
  sp : SameP Pt H0 H
  O : Oa K H l c n rs gs vo
  tA : SqT K H TA g.vals
  lx : x.length ≤ 100
  n1 : 1 ≤ n
  n12 : n ≤ 12
theorem FA.mono {K : PySem.W.Frag} {Pt : Addr} {H0 H H' : Hp} {l TA : Addr} {c : Int} {n : Nat} {rs : List Addr} {gs : List GV} {vo : List Vow} {g : GV} {x : Str} (h : FA K Pt H0 H l TA c n rs gs vo g x) (s : Same H H') : FA K Pt H0 H' l TA c n rs gs vo g x := ⟨h.tb.same s, h.sp.trans (fun b o _ e => s b o e), h.O.mono s, s.seqT h.tA, h.lx, h.n1, h.n12⟩
theorem FA.monoP {K : PySem.W.Frag} {Pt : Addr} {H0 H H' : Hp} {l TA : Addr} {c : Int} {n : Nat} {rs : List Addr} {gs : List GV} {vo : List Vow} {g : GV} {x : Str} (h : FA K Pt H0 H l TA c n rs gs vo g x) (T : TabOk H' Pt qA) (s : SameP Pt H H') : FA K Pt H0 H' l TA c n rs gs vo g x := ⟨T, h.sp.trans s, h.O.monoP h.tb s, seqT_P h.tb s h.tA, h.lx, h.n1, h.n12⟩
def WR (H : Hp) (r : Addr) (w : Str) : Prop := (w = "" ∧ ∃ v, H r = some (.tup [.str "told", v])) ∨ (w ≠ "" ∧ w ≠ "told" ∧ H r = some (.tup [.str w]))
theorem WR.mono {H H' : Hp} {r : Addr} {w : Str} (h : WR H r w) (s : Same H H') : WR H' r w := by
  rcases h with ⟨e, v, h⟩ | ⟨e, e', h⟩
  · exact .inl ⟨e, v, s _ _ h⟩
  · exact .inr ⟨e, e', s _ _ h⟩
abbrev SA (c : Int) (n : Nat) (l TA : Addr) (x : Str) (v5 v6 v7 : Option V) : St := [some (.int c), some (.int n), some (.ref l), some (.str x), some (.ref TA), v5, v6, v7]
noncomputable def dueP (w0 : Str) (n : Nat) (x : Str) : Str := if w0 = "" then (if ptB n x = true then "" else "bad pattern") else w0
def w1W (w0 : Str) (n : Nat) (g : GV) : Str := if w0 = "" then gW n g else w0
def W2 (w1 w2 : Str) (n : Nat) (vo : List Vow) : Prop := (w1 ≠ "" ∧ w2 = w1) ∨ (w1 = "" ∧ Torn n (EV (esV vo)) ∧ w2 = "torn") ∨ (w1 = "" ∧ ¬ Torn n (EV (esV vo)) ∧ w2 = "")
theorem Oa.copy {K : PySem.W.Frag} {H H' : Hp} {l L : Addr} {c : Int} {n : Nat} {rs : List Addr} {gs : List GV} {vo : List Vow} (h : Oa K H l c n rs gs vo) (s : Same H H') (e : H' L = some (.lst (rs.map V.ref))) : Oa K H' L c n rs gs vo := ⟨SqL.of e, h.gvs.mono s, h.len, h.cn, fun g => ⟨(h.good g).1.mono s, (h.good g).2⟩⟩
theorem WR.word {H : Hp} {r : Addr} {w w' : Str} (e : w' = w) (h : H r = some (.tup [.str w])) (ne : w ≠ "") (nt' : w ≠ "told") : WR H r w' := by subst e; exact .inr ⟨ne, nt', h⟩
theorem WR.said {H : Hp} {r : Addr} {v : V} {w' : Str} (e : w' = "") (h : H r = some (.tup [.str "told", v])) : WR H r w' := .inl ⟨e, v, h⟩
theorem fst_bad {c : Int} {n : Nat} {gs : List GV} (h : ¬ (1 ≤ c ∧ c ≤ 12)) : fstW c n gs = "bad count" := if_neg h
theorem fst_ok {c : Int} {n : Nat} {gs : List GV} (h : 1 ≤ c ∧ c ≤ 12) : fstW c n gs = firstG n gs := if_pos h
theorem fst_nil {c : Int} {n : Nat} {gs : List GV} (h : fstW c n gs = "") : (1 ≤ c ∧ c ≤ 12) ∧ firstG n gs = "" := by
  by_cases d : 1 ≤ c ∧ c ≤ 12
  · rw [fst_ok d] at h; exact ⟨d, h⟩
  · rw [fst_bad d] at h; exact absurd h (by decide)
theorem strV {x y : Str} : (V.str x = V.str y) ↔ x = y := ⟨fun h => by injection h, fun h => by rw [h]⟩
section
variable {P : Program} {w : World} {K : PySem.W.Frag} {mg : Str → Option Value} {base : Heap} {W BC BS fW fC fS BB fB BQ fQ BG fG : Addr} {gW' gC gS gB gQ gG : FuncData} {Pt : Addr}
def MA (K : PySem.W.Frag) (Pt : Addr) (H0 : Hp) : St → Hp → Prop := fun σ H => ∃ (c : Int) (l TA r : Addr) (n : Nat) (rs : List Addr) (gs : List GV) (vo : List Vow) (g : GV) (x : Str) (v7 : Option V), σ = SA c n l TA x (some (.str (fstW c n gs))) (some (.ref r)) v7 ∧ FA K Pt H0 H l TA c n rs gs vo g x ∧ WR H r (fstW c n gs)
def MB (K : PySem.W.Frag) (Pt : Addr) (H0 : Hp) : St → Hp → Prop := fun σ H => ∃ (c : Int) (l TA : Addr) (n : Nat) (rs : List Addr) (gs : List GV) (vo : List Vow) (g : GV) (x : Str) (v6 : Option V), σ = SA c n l TA x (some (.str (fstW c n gs))) v6 (some (.str (dueP (fstW c n gs) n x))) ∧ FA K Pt H0 H l TA c n rs gs vo g x
def MC (K : PySem.W.Frag) (Pt : Addr) (H0 : Hp) : St → Hp → Prop := fun σ H => ∃ (c : Int) (l TA r : Addr) (n : Nat) (rs : List Addr) (gs : List GV) (vo : List Vow) (g : GV) (x : Str), σ = SA c n l TA x (some (.str (fstW c n gs))) (some (.ref r)) (some (.str (dueP (fstW c n gs) n x))) ∧ FA K Pt H0 H l TA c n rs gs vo g x ∧ WR H r (dueP (fstW c n gs) n x)
def MD (K : PySem.W.Frag) (Pt : Addr) (H0 : Hp) : St → Hp → Prop := fun σ H => ∃ (c : Int) (l TA : Addr) (n : Nat) (rs : List Addr) (gs : List GV) (vo : List Vow) (g : GV) (x : Str) (v6 v7 : Option V), σ = SA c n l TA x (some (.str (w1W (fstW c n gs) n g))) v6 v7 ∧ FA K Pt H0 H l TA c n rs gs vo g x
def ME (K : PySem.W.Frag) (Pt : Addr) (H0 : Hp) : St → Hp → Prop := fun σ H => ∃ (c : Int) (l TA : Addr) (n : Nat) (rs : List Addr) (gs : List GV) (vo : List Vow) (g : GV) (x w2 : Str) (v6 v7 : Option V), σ = SA c n l TA x (some (.str w2)) v6 v7 ∧ FA K Pt H0 H l TA c n rs gs vo g x ∧ W2 (w1W (fstW c n gs) n g) w2 n vo
def MF (K : PySem.W.Frag) (Pt : Addr) (H0 : Hp) : St → Hp → Prop := fun σ H => ∃ (c : Int) (l TA r : Addr) (n : Nat) (rs : List Addr) (gs : List GV) (vo : List Vow) (g : GV) (x w2 : Str) (v7 : Option V), σ = SA c n l TA x (some (.str w2)) (some (.ref r)) v7 ∧ FA K Pt H0 H l TA c n rs gs vo g x ∧ WR H r w2
abbrev N_ak : List Str := ["_law_count_here", "_law_n", "_law_vows_here", "_law_pattern", "_law_asked_here", "_law_word_here", "_law_told", "_law_due"]
abbrev P_ak : List Str := ["_law_count_here", "_law_n", "_law_vows_here", "_law_pattern", "_law_asked_here"]
theorem sc_ak : FnScope N_ak P_ak (defScope s_asked) := ⟨rfl, rfl, rfl, by decide +kernel, rfl, by decide +kernel, by decide +kernel⟩
abbrev N_ak1 : List Str := ["_law_sign"]
theorem nd_ak1 : N_ak1.Nodup := by decide +kernel
abbrev XA (P : Program) (w : World) (K : PySem.W.Frag) (mg : Str → Option Value) (base : Heap) (f : Addr) (cc : Addr) (A : Around) (outer : List Env) (s : Shared) (H : Hp) (E : XK) : Cx :=
  (cxOf (CXE P w) P w K mg base N_ak "_law_asked" (defScope s_asked) f (.ref cc) A outer s H E).nox
def spAsked (K : PySem.W.Frag) (Pt : Addr) : Sp := fun vs H Q _ => ∃ (c : Int) (l TA : Addr) (n : Nat) (rs : List Addr) (gs : List GV) (vo : List Vow) (g : GV) (x : Str), vs = [.int c, .int n, .ref l, .str x, .ref TA] ∧ FA K Pt H H l TA c n rs gs vo g x ∧ ∀ H', TabOk H' Pt qA → SameP Pt H H' → Q (.bl true) H'
theorem ok_asked {oc kV doc pm ct : Value} {od an : Option Addr} {osl : Array (Option Value)} {f cc fi ff fw fe ft fk fo : Addr} {gi gf gw ge gt gk go : FuncData}
    (lk : K.lookup f = some ⟨oc, od, .func (PySem.W.fnOf "_law_asked" "_law_asked" (defArgs s_asked) (defBody s_asked) (defScope s_asked) .none kV doc pm an (.ref cc) ct), osl⟩) (hcd : PySem.W.codeIn K (.ref cc) "_law_asked" = true)
    (Di : Df K mg "_law_first" s_first P_fi fi gi) (Gi : FnOk P w K mg base (CXE P w) 2 fi gi P_fi (spFirst K)) (Df' : Df K mg "_law_fault" s_fault P_fa ff gf) (Dw : Df K mg "_law_word" s_word ["_law_asked_here"] fw gw) (De : Df K mg "_law_same" s_same Ps fe ge)
    (Dt' : Df K mg "torn" s_torn P_to ft gt) (Gt : ∀ base, FnOk P w K mg base (CXE P w) 7 ft gt P_to (spTornE K BB BQ BG)) (Dk : Df K mg "keeping" s_keeping P_kp fk gk) (Gk : ∀ base, FnOk P w K mg base (CXE P w) 7 fk gk P_kp (spKeepE K BB BQ BG BC)) (Do : Df K mg "follows" s_follows P_fo fo go) (Go : ∀ base, FnOk P w K mg base (CXE P w) 8 fo go P_fo (spFollE K BB BQ BG BS))
    (X : Xs K mg W BC BS fW fC fS gW' gC gS) (ZB : Xc K mg W BB fB gB "BadCount" "BadCount.__init__" s_binit) (ZQ : Xc K mg W BQ fQ gQ "NoQuestion" "NoQuestion.__init__" s_qinit) (ZG : Xc K mg W BG fG gG "BadSign" "BadSign.__init__" s_ginit) (B : Bt mg) (Cd : PySem.W.CodeHd base cc Pt) (BM : BMain mg base) :
    FnOk P w K mg base (CXE P w) 11 f (PySem.W.fnOf "_law_asked" "_law_asked" (defArgs s_asked) (defBody s_asked) (defScope s_asked) .none kV doc pm an (.ref cc) ct) P_ak (spAsked K Pt) := by
  refine fn_of lk hcd sc_ak (fun vs H Q E h => ?_) fun A outer s H vs Q E hr h => ?_
  · obtain ⟨c, l, TA, n, rs, gs, vo, g, x, rfl, _⟩ := h
    rfl
  obtain ⟨c, l, TA, n, rs, gs, vo, g, x, rfl, F0, k⟩ := h
  suffices hsuff : ∃ t, PSs (XA P w K mg base f cc A outer s H E) (defBody s_asked) t ∧ t { nx := fun _ H' => Q .non H', rt := Q } (start N_ak [.int c, .int n, .ref l, .str x, .ref TA]) H by
    obtain ⟨t, h1, h2⟩ := hsuff
    exact ⟨t, h1.nox, h2⟩
  have hu : (XA P w K mg base f cc A outer s H E).A.units < cLine := hr.units0
  refine ⟨_, pss_cons (ps_set (i := 5) sc_ak.nd rfl (Or.inl rfl) (pe_fn Di Gi (hr.mono (by decide)) passN (pa_cons (pv 0) (pa_cons (pv 1) (pa_cons (pv 2) pa_nil)))))
      (pss_cons (ps_cut (MA K Pt H) (ps_set (i := 6) sc_ak.nd rfl (Or.inl rfl) (pe_word (W := W) (P := Pt) (c := cc) (kl := 7) (kw := 9) (N := ["_law_count_here", "_law_vows_here"]) (fm := [0, 2]) (t := fun E => tCall (spTornE K BB BQ BG) [] E (tCons (tVar 0) (tCons (tCB (rListOf K) (tCons (tVar 1) tNil)) tNil))) Dw (fun base f fdl spl ho hb G => ok_word Dw X ho hb G) (hr.mono (by decide)) rfl Cd BM (fun _ => rfl) (by exact ⟨rfl, rfl, rfl, by decide +kernel⟩) (by exact (show ∀ y : Str × NameKind, y ∈ _ → y.2 = NameKind.free → (defScope s_asked).names.lookup y.1 = some NameKind.cell by decide +kernel)) rfl (by intro i x h; match i, h with | 0, h => cases h; exact ⟨rfl, 0, rfl, rfl⟩ | 1, h => cases h; exact ⟨rfl, 2, rfl, rfl⟩ | _ + 2, h => cases h) (by intro base f c' A outer s H E hr; exact pe_fn Dt' (Gt base) hr passL (pa_cons (pv 0) (pa_cons (pe_callTy (call_listK (K := K) rfl) (by rfl) B.list (by rfl) (pa_cons (pv 1) pa_nil)) pa_nil))) passN)))
      (pss_cons (ps_if (PW.pt (pw_or (pt_cmpR op_ne (pe_cmpR op_ne (pe_ix ix_tup (pv 6) pe_int (fun _ _ => rfl)) pe_str (nomark _)) (pe_cmpR op_ne (pv 5) pe_str (nomark _)) (nomark _)) (pw_or1 (PW.pt (pw_and (pt_cmpR op_ne (pv 5) pe_str (nomark _)) (pw_and1 (pt_not (pt_val (pe_fn De (ok_same De B 2) (hr.mono (by decide)) passN (pa_cons (pv 6) (pa_cons (pe_tup (pa_cons (pv 5) pa_nil)) pa_nil))))))))))) (pss_one (ps_ret pe_bl)) pss_nil)
      (pss_cons (ps_set (i := 7) sc_ak.nd rfl (Or.inl rfl) (pv 5))
      (pss_cons (ps_cut (MB K Pt H) (ps_if (PW.pt (pw_and (pt_cmpR op_eq (pv 7) pe_str (nomark _)) (pw_and1 (PW.pt (pw_or (pt_cmpR op_ne (pe_callB call_len_str (by rfl) B.len PySem.boot_len (pa_cons (pv 3) pa_nil)) (pv 1) (nomark _)) (pw_or1 (pt_not (pt_val (pe_callB (call_all rfl) (by rfl) B.all (by rfl) (pa_cons (pe_comp (N' := N_ak1) (fm := [none]) rfl ⟨rfl, by decide +kernel, by decide +kernel, rfl, rfl, rfl⟩ (pi_str (pv 3)) (fun _ _ _ _ => (pg_name (i := 0) nd_ak1 rfl (Or.inl rfl))) (fun _ _ _ _ => pif_nil) (fun _ _ _ _ => (pe_cmpR op_in_str (pv 0) pe_str (by rfl)))) pa_nil)))))))))) (pss_one (ps_set (i := 7) sc_ak.nd rfl (Or.inl rfl) pe_str)) pss_nil))
      (pss_cons (ps_cut (MC K Pt H) (ps_set (i := 6) sc_ak.nd rfl (Or.inl rfl) (pe_word (W := W) (P := Pt) (c := cc) (kl := 7) (kw := 9) (N := ["_law_count_here", "_law_vows_here", "_law_pattern"]) (fm := [0, 2, 3]) (t := fun E => tCall (spKeepE K BB BQ BG BC) [] E (tCons (tVar 0) (tCons (tCB (rListOf K) (tCons (tVar 1) tNil)) (tCons (tVar 2) tNil)))) Dw (fun base f fdl spl ho hb G => ok_word Dw X ho hb G) (hr.mono (by decide)) rfl Cd BM (fun _ => rfl) (by exact ⟨rfl, rfl, rfl, by decide +kernel⟩) (by exact (show ∀ y : Str × NameKind, y ∈ _ → y.2 = NameKind.free → (defScope s_asked).names.lookup y.1 = some NameKind.cell by decide +kernel)) rfl (by intro i x h; match i, h with | 0, h => cases h; exact ⟨rfl, 0, rfl, rfl⟩ | 1, h => cases h; exact ⟨rfl, 2, rfl, rfl⟩ | 2, h => cases h; exact ⟨rfl, 3, rfl, rfl⟩ | _ + 3, h => cases h) (by intro base f c' A outer s H E hr; exact pe_fn Dk (Gk base) hr passL (pa_cons (pv 0) (pa_cons (pe_callTy (call_listK (K := K) rfl) (by rfl) B.list (by rfl) (pa_cons (pv 1) pa_nil)) (pa_cons (pv 2) pa_nil)))) passN)))
      (pss_cons (ps_if (PW.pt (pw_or (pt_cmpR op_ne (pe_cmpR op_ne (pe_ix ix_tup (pv 6) pe_int (fun _ _ => rfl)) pe_str (nomark _)) (pe_cmpR op_ne (pv 7) pe_str (nomark _)) (nomark _)) (pw_or1 (PW.pt (pw_and (pt_cmpR op_ne (pv 7) pe_str (nomark _)) (pw_and1 (pt_not (pt_val (pe_fn De (ok_same De B 2) (hr.mono (by decide)) passN (pa_cons (pv 6) (pa_cons (pe_tup (pa_cons (pv 7) pa_nil)) pa_nil))))))))))) (pss_one (ps_ret pe_bl)) pss_nil)
      (pss_cons (ps_cut (MD K Pt H) (ps_if (pt_cmpR op_eq (pv 5) pe_str (nomark _)) (pss_one (ps_set (i := 5) sc_ak.nd rfl (Or.inl rfl) (pe_fn Df' (ok_fault Df') (hr.mono (by decide)) passN (pa_cons (pv 4) (pa_cons (pv 1) pa_nil))))) pss_nil))
      (pss_cons (ps_cut (ME K Pt H) (ps_if (PW.pt (pw_and (pt_cmpR op_eq (pv 5) pe_str (nomark _)) (pw_and1 (pt_cmp (pc_notN (pe_fn Dt' (Gt base) (hr.mono (by decide)) passN (pa_cons (pv 0) (pa_cons (pe_callTy call_list_of (by rfl) B.list (by rfl) (pa_cons (pv 2) pa_nil)) pa_nil)))))))) (pss_one (ps_set (i := 5) sc_ak.nd rfl (Or.inl rfl) pe_str)) pss_nil))
      (pss_cons (ps_cut (MF K Pt H) (ps_set (i := 6) sc_ak.nd rfl (Or.inl rfl) (pe_word (W := W) (P := Pt) (c := cc) (kl := 8) (kw := 10) (N := ["_law_count_here", "_law_vows_here", "_law_asked_here"]) (fm := [0, 2, 4]) (t := fun E => tCall (spFollE K BB BQ BG BS) [] E (tCons (tVar 0) (tCons (tCB (rListOf K) (tCons (tVar 1) tNil)) (tCons (tOp (rIxT K) (tVar 2) (tC (.int 0))) (tCons (tOp (rIxT K) (tVar 2) (tC (.int 1))) (tCons (tOp (rIxT K) (tVar 2) (tC (.int 2))) (tCons (tOp (rIxT K) (tVar 2) (tC (.int 3))) tNil))))))) Dw (fun base f fdl spl ho hb G => ok_word Dw X ho hb G) (hr.mono (by decide)) rfl Cd BM (fun _ => rfl) (by exact ⟨rfl, rfl, rfl, by decide +kernel⟩) (by exact (show ∀ y : Str × NameKind, y ∈ _ → y.2 = NameKind.free → (defScope s_asked).names.lookup y.1 = some NameKind.cell by decide +kernel)) rfl (by intro i x h; match i, h with | 0, h => cases h; exact ⟨rfl, 0, rfl, rfl⟩ | 1, h => cases h; exact ⟨rfl, 2, rfl, rfl⟩ | 2, h => cases h; exact ⟨rfl, 4, rfl, rfl⟩ | _ + 3, h => cases h) (by intro base f c' A outer s H E hr; exact pe_fn Do (Go base) hr passL (pa_cons (pv 0) (pa_cons (pe_callTy (call_listK (K := K) rfl) (by rfl) B.list (by rfl) (pa_cons (pv 1) pa_nil)) (pa_cons (pe_ix (r := rIxT K) ix_tup (pv 2) pe_int (fun _ _ => rfl)) (pa_cons (pe_ix (r := rIxT K) ix_tup (pv 2) pe_int (fun _ _ => rfl)) (pa_cons (pe_ix (r := rIxT K) ix_tup (pv 2) pe_int (fun _ _ => rfl)) (pa_cons (pe_ix (r := rIxT K) ix_tup (pv 2) pe_int (fun _ _ => rfl)) pa_nil))))))) passN)))
      (pss_one (ps_ret (pe_and (pe_cmpR op_eq (pe_cmpR op_ne (pe_ix ix_tup (pv 6) pe_int (fun _ _ => rfl)) pe_str (nomark _)) (pe_cmpR op_ne (pv 5) pe_str (nomark _)) (nomark _)) (pe_one (pe_or (pe_cmpR op_eq (pv 5) pe_str (nomark _)) (pe_one (pe_fn De (ok_same De B 2) (hr.mono (by decide)) passN (pa_cons (pv 6) (pa_cons (pe_tup (pa_cons (pv 5) pa_nil)) pa_nil)))))))))))))))))), ?_⟩
  refine ⟨_, rfl, _, rfl, _, rfl, c, l, n, rs, gs, rfl, F0.O.lst, F0.O.gvs, fun H1 s1' => ?_⟩
  have F1 := F0.mono s1'
  refine ⟨?_, ?_⟩
  · refine ⟨F1.tb, fun H2 T2 s2 => ?_⟩
    have F2 := F1.monoP T2 s2
    refine ⟨_, rfl, _, rfl, l, _, rfl, .inl F2.O.lst, fun L hL => ?_⟩
    have sL := Same.new (o := .lst (rs.map V.ref)) hL
    refine ⟨c, L, n, rs, gs, vo, rfl, F2.O.copy sL upd_same, fun h => ?_, fun c12 h => ?_, fun c12 h => ?_, fun c12 h => ⟨fun nT H3 s3 => toldQ.mk fun r hr' => ?_, fun Tn rr H3 s3 => toldQ.mk fun r hr' => ?_⟩⟩
    · skip
      intro dx' HC sC eC
      refine ⟨BB, dx', "bad count", rfl, rfl, eC, ZB.s, ZB.k, fun HD r sD hr' => ?_⟩
      have sR := sL.trans' (sC.trans' (sD.trans' (Same.new (o := .tup [.str "bad count"]) hr')))
      exact ⟨c, l, TA, r, n, rs, gs, vo, g, x, _, rfl, F2.mono sR, WR.word (fst_bad h) upd_same (by decide) (by decide)⟩
    · skip
      intro dx' HC sC eC
      refine ⟨BQ, dx', "no question", rfl, rfl, eC, ZQ.s, ZQ.k, fun HD r sD hr' => ?_⟩
      have sR := sL.trans' (sC.trans' (sD.trans' (Same.new (o := .tup [.str "no question"]) hr')))
      exact ⟨c, l, TA, r, n, rs, gs, vo, g, x, _, rfl, F2.mono sR, WR.word ((fst_ok c12).trans h) upd_same (by decide) (by decide)⟩
    · skip
      intro dx' HC sC eC
      refine ⟨BG, dx', "bad sign", rfl, rfl, eC, ZG.s, ZG.k, fun HD r sD hr' => ?_⟩
      have sR := sL.trans' (sC.trans' (sD.trans' (Same.new (o := .tup [.str "bad sign"]) hr')))
      exact ⟨c, l, TA, r, n, rs, gs, vo, g, x, _, rfl, F2.mono sR, WR.word ((fst_ok c12).trans h) upd_same (by decide) (by decide)⟩
    · skip
      have sR := sL.trans' (s3.trans' (Same.new (o := .tup [.str "told", .non]) hr'))
      exact ⟨c, l, TA, r, n, rs, gs, vo, g, x, _, rfl, F2.mono sR, WR.said ((fst_ok c12).trans h) upd_same⟩
    · skip
      have sR := sL.trans' (s3.trans' (Same.new (o := .tup [.str "told", .ref rr]) hr'))
      exact ⟨c, l, TA, r, n, rs, gs, vo, g, x, _, rfl, F2.mono sR, WR.said ((fst_ok c12).trans h) upd_same⟩
  clear F1 s1' F0
  rintro σ HA ⟨c, l, TA, r, n, rs, gs, vo, g, x, v7, rfl, FA', wr⟩
  refine (fun (Nx : ∀ H', Same HA H' → (?Ga : Hp → Prop) H') => ?chka) ?goa
  case chka =>
    rcases wr with hh | ⟨w0, wt, er⟩
    rotate_left
    · have d1 : decide (V.str (fstW c n gs) = V.str ("told" : Str)) = false := decide_eq_false fun h => wt (strV.mp h)
      have d2 : decide (V.str (fstW c n gs) = V.str ("" : Str)) = false := decide_eq_false fun h => w0 (strV.mp h)
      refine ⟨_, rfl, r, _, _, .str (fstW c n gs), rfl, rfl, SqT.of er, rfl, rfl, _, rfl, rfl, rfl, _, rfl, ?_⟩
      show if (!decide (V.bl (!decide (V.str (fstW c n gs) = V.str ("told" : Str))) = V.bl (!decide (V.str (fstW c n gs) = V.str ("" : Str))))) = true then _ else _
      rw [d1, d2, decide_eq_true (rfl : V.bl (!false) = V.bl (!false))]
      refine iteF ⟨_, rfl, rfl, _, rfl, ?_⟩
      show if (!decide (V.str (fstW c n gs) = V.str ("" : Str))) = true then _ else _
      rw [d2]
      refine iteT ⟨_, rfl, _, rfl, len_le (show 1 ≤ 100 by decide), fun T3 hT3 => ?_⟩
      have s3 := Same.new (o := .tup [.str (fstW c n gs)]) hT3
      refine ⟨_, _, _, _, rfl, den_t1 (s3 _ _ er) (.str _), den_t1 upd_same (.str _), (show 1 + max 0 0 ≤ 1 by decide), fun HN sN => ⟨_, rfl, ?_⟩⟩
      rw [eqb_t1]
      refine iteF ?_
      exact Nx HN (s3.trans' sN)
    · obtain ⟨w0, tv, er⟩ := hh
      have d2 : decide (V.str (fstW c n gs) = V.str ("" : Str)) = true := decide_eq_true (by rw [w0])
      refine ⟨_, rfl, r, _, _, .str "told", rfl, rfl, SqT.of er, rfl, rfl, _, rfl, rfl, rfl, _, rfl, ?_⟩
      show if (!decide (V.bl (!decide (V.str ("told" : Str) = V.str ("told" : Str))) = V.bl (!decide (V.str (fstW c n gs) = V.str ("" : Str))))) = true then _ else _
      rw [d2, decide_eq_true (rfl : V.str ("told" : Str) = V.str ("told" : Str)), decide_eq_true (rfl : V.bl (!true) = V.bl (!true))]
      refine iteF ⟨_, rfl, rfl, _, rfl, ?_⟩
      show if (!decide (V.str (fstW c n gs) = V.str ("" : Str))) = true then _ else _
      rw [d2]
      refine iteF ?_
      refine iteF ?_
      exact Nx HA (Same.refl _)
  intro HB sB
  have FB := FA'.mono sB
  clear FA' wr sB
  refine ⟨_, rfl, ?_⟩
  refine ⟨?_, ?_⟩
  · have fin : ∀ (H' : Hp) (d : Str), Same HB H' → d = dueP (fstW c n gs) n x → MB K Pt H (SA c n l TA x (some (.str (fstW c n gs))) (some (.ref r)) (some (.str d))) H' := fun H' d s' e => by subst e; exact ⟨c, l, TA, n, rs, gs, vo, g, x, _, rfl, FB.mono s'⟩
    refine ⟨_, rfl, rfl, _, rfl, ?_⟩
    show if decide (V.str (fstW c n gs) = V.str ("" : Str)) = true then _ else _
    by_cases w0 : fstW c n gs = ""
    case neg =>
      rw [decide_eq_false (fun h => w0 (strV.mp h))]
      exact iteF (iteF (fin HB _ (Same.refl _) (if_neg w0).symm))
    rw [decide_eq_true (by rw [w0])]
    have dp : dueP (fstW c n gs) n x = (if ptB n x = true then ("" : Str) else ("bad pattern" : Str)) := if_pos w0
    refine iteT ⟨_, rfl, _, rfl, len_le FB.lx, _, rfl, rfl, _, rfl, ?_⟩
    show if (!decide (V.int (x.length : Nat) = V.int (n : Nat))) = true then _ else _
    by_cases cl : x.length = n
    case neg =>
      rw [decide_eq_false (fun h => cl (by injection h with h; omega))]
      refine iteT (iteT (fin HB _ (Same.refl _) ?_))
      rw [dp, if_neg (by unfold ptB; rw [decide_eq_false cl]; exact Bool.false_ne_true)]
    rw [show V.int (x.length : Nat) = V.int (n : Nat) by rw [cl], decide_eq_true rfl]
    refine iteF ⟨_, rfl, _, rfl, fun pa hpa => ?_⟩
    refine blk_str (fun i σ H3 => ∃ u, σ = [u] ∧ Same HB H3 ∧ H3 pa = some (.lst ((List.range i).map fun j => V.bl (inG "yn-" (ch x j))))) ⟨none, rfl, Same.new hpa, upd_same⟩ ?_ ?_
    · rintro i σ H3 hi ⟨u, rfl, s3, e3⟩
      have lx := FB.lx
      refine turn_all ⟨_, rfl, _, _, rfl, rfl, _, e3, small_rng _ _ (by omega), _, rfl, Same.grow hpa s3, ?_⟩
      rw [upd_same, ← map_snoc]
      show some (HO.lst (_ ++ [V.bl _])) = _
      rw [show (!(Builtin.Str.occurrences "yn-" ⟨#[x.cps.getD i 0]⟩ 0 ("yn-" : Str).length 1).isEmpty) = inG "yn-" (ch x i) from in_occ "yn-" _]
    rintro σ H3 ⟨u', rfl, s3, e3⟩
    rw [map_bl] at e3
    refine ⟨pa, _, rfl, SqL.of e3, _, rfl, ?_⟩
    have eb : ptB n x = ((List.range x.length).map fun i => inG "yn-" (ch x i)).all id := by
      unfold ptB; rw [decide_eq_true cl]; rfl
    rw [← eb]
    cases cb : ptB n x with
    | true =>
      refine iteF (fin H3 _ s3 ?_)
      rw [dp, cb, if_pos rfl, w0]
    | false =>
      refine iteT (fin H3 _ s3 ?_)
      rw [dp, cb, if_neg Bool.false_ne_true]
  clear FB
  rintro σ HB ⟨c, l, TA, n, rs, gs, vo, g, x, v6, rfl, FB⟩
  refine ⟨?_, ?_⟩
  · refine ⟨FB.tb, fun H2 T2 s2 => ?_⟩
    have F2 := FB.monoP T2 s2
    refine ⟨_, rfl, _, rfl, l, _, rfl, .inl F2.O.lst, fun L hL => ⟨_, rfl, ?_⟩⟩
    have sL := Same.new (o := .lst (rs.map V.ref)) hL
    have dn : ∀ {w0 : Str}, w0 ≠ "" → fstW c n gs = w0 → dueP (fstW c n gs) n x = w0 := fun h e => by unfold dueP; rw [e, if_neg h]
    have dz : ∀ (c12 : 1 ≤ c ∧ c ≤ 12), firstG n gs = "" → dueP (fstW c n gs) n x = (if ptB n x = true then ("" : Str) else ("bad pattern" : Str)) := fun c12 h => by unfold dueP; rw [fst_ok c12, h, if_pos rfl]
    refine ⟨c, L, n, rs, gs, vo, x, rfl, F2.O.copy sL upd_same, F2.lx, fun h => ?_, fun c12 h => ?_, fun c12 h => ?_, fun c12 h hp => ?_, fun c12 h hp v H3 s3 => toldQ.mk fun r hr' => ?_⟩
    · skip
      intro dx' HC sC eC
      refine ⟨BB, dx', "bad count", rfl, rfl, eC, ZB.s, ZB.k, fun HD r sD hr' => ?_⟩
      have sR := sL.trans' (sC.trans' (sD.trans' (Same.new (o := .tup [.str "bad count"]) hr')))
      exact ⟨c, l, TA, r, n, rs, gs, vo, g, x, rfl, F2.mono sR, WR.word (dn (by decide) (fst_bad h)) upd_same (by decide) (by decide)⟩
    · skip
      intro dx' HC sC eC
      refine ⟨BQ, dx', "no question", rfl, rfl, eC, ZQ.s, ZQ.k, fun HD r sD hr' => ?_⟩
      have sR := sL.trans' (sC.trans' (sD.trans' (Same.new (o := .tup [.str "no question"]) hr')))
      exact ⟨c, l, TA, r, n, rs, gs, vo, g, x, rfl, F2.mono sR, WR.word (dn (by decide) ((fst_ok c12).trans h)) upd_same (by decide) (by decide)⟩
    · skip
      intro dx' HC sC eC
      refine ⟨BG, dx', "bad sign", rfl, rfl, eC, ZG.s, ZG.k, fun HD r sD hr' => ?_⟩
      have sR := sL.trans' (sC.trans' (sD.trans' (Same.new (o := .tup [.str "bad sign"]) hr')))
      exact ⟨c, l, TA, r, n, rs, gs, vo, g, x, rfl, F2.mono sR, WR.word (dn (by decide) ((fst_ok c12).trans h)) upd_same (by decide) (by decide)⟩
    · skip
      intro dx' HC sC eC
      refine ⟨BC, dx', "bad pattern", rfl, rfl, eC, X.sC, X.kC, fun HD r sD hr' => ?_⟩
      have sR := sL.trans' (sC.trans' (sD.trans' (Same.new (o := .tup [.str "bad pattern"]) hr')))
      exact ⟨c, l, TA, r, n, rs, gs, vo, g, x, rfl, F2.mono sR, WR.word ((dz c12 h).trans (if_neg fun w => hp (ptB_iff.mp w))) upd_same (by decide) (by decide)⟩
    · skip
      have sR := sL.trans' (s3.trans' (Same.new (o := .tup [.str "told", v]) hr'))
      exact ⟨c, l, TA, r, n, rs, gs, vo, g, x, rfl, F2.mono sR, WR.said ((dz c12 h).trans (if_pos (ptB_iff.mpr hp))) upd_same⟩
  clear FB
  rintro σ HA ⟨c, l, TA, r, n, rs, gs, vo, g, x, rfl, FA', wr⟩
  refine (fun (Nx : ∀ H', Same HA H' → (?Gb : Hp → Prop) H') => ?chkb) ?gob
  case chkb =>
    rcases wr with hh | ⟨w0, wt, er⟩
    rotate_left
    · have d1 : decide (V.str (dueP (fstW c n gs) n x) = V.str ("told" : Str)) = false := decide_eq_false fun h => wt (strV.mp h)
      have d2 : decide (V.str (dueP (fstW c n gs) n x) = V.str ("" : Str)) = false := decide_eq_false fun h => w0 (strV.mp h)
      refine ⟨_, rfl, r, _, _, .str (dueP (fstW c n gs) n x), rfl, rfl, SqT.of er, rfl, rfl, _, rfl, rfl, rfl, _, rfl, ?_⟩
      show if (!decide (V.bl (!decide (V.str (dueP (fstW c n gs) n x) = V.str ("told" : Str))) = V.bl (!decide (V.str (dueP (fstW c n gs) n x) = V.str ("" : Str))))) = true then _ else _
      rw [d1, d2, decide_eq_true (rfl : V.bl (!false) = V.bl (!false))]
      refine iteF ⟨_, rfl, rfl, _, rfl, ?_⟩
      show if (!decide (V.str (dueP (fstW c n gs) n x) = V.str ("" : Str))) = true then _ else _
      rw [d2]
      refine iteT ⟨_, rfl, _, rfl, len_le (show 1 ≤ 100 by decide), fun T3 hT3 => ?_⟩
      have s3 := Same.new (o := .tup [.str (dueP (fstW c n gs) n x)]) hT3
      refine ⟨_, _, _, _, rfl, den_t1 (s3 _ _ er) (.str _), den_t1 upd_same (.str _), (show 1 + max 0 0 ≤ 1 by decide), fun HN sN => ⟨_, rfl, ?_⟩⟩
      rw [eqb_t1]
      refine iteF ?_
      exact Nx HN (s3.trans' sN)
    · obtain ⟨w0, tv, er⟩ := hh
      have d2 : decide (V.str (dueP (fstW c n gs) n x) = V.str ("" : Str)) = true := decide_eq_true (by rw [w0])
      refine ⟨_, rfl, r, _, _, .str "told", rfl, rfl, SqT.of er, rfl, rfl, _, rfl, rfl, rfl, _, rfl, ?_⟩
      show if (!decide (V.bl (!decide (V.str ("told" : Str) = V.str ("told" : Str))) = V.bl (!decide (V.str (dueP (fstW c n gs) n x) = V.str ("" : Str))))) = true then _ else _
      rw [d2, decide_eq_true (rfl : V.str ("told" : Str) = V.str ("told" : Str)), decide_eq_true (rfl : V.bl (!true) = V.bl (!true))]
      refine iteF ⟨_, rfl, rfl, _, rfl, ?_⟩
      show if (!decide (V.str (dueP (fstW c n gs) n x) = V.str ("" : Str))) = true then _ else _
      rw [d2]
      refine iteF ?_
      refine iteF ?_
      exact Nx HA (Same.refl _)
  intro HB sB
  have FB := FA'.mono sB
  clear FA' wr sB
  refine ⟨?_, ?_⟩
  · have fin : ∀ (H' : Hp) (d : Str), Same HB H' → d = w1W (fstW c n gs) n g → MD K Pt H (SA c n l TA x (some (.str d)) (some (.ref r)) (some (.str (dueP (fstW c n gs) n x)))) H' := fun H' d s' e => by subst e; exact ⟨c, l, TA, n, rs, gs, vo, g, x, _, _, rfl, FB.mono s'⟩
    refine ⟨_, rfl, rfl, _, rfl, ?_⟩
    show if decide (V.str (fstW c n gs) = V.str ("" : Str)) = true then _ else _
    by_cases w0 : fstW c n gs = ""
    case neg =>
      rw [decide_eq_false (fun h => w0 (strV.mp h))]
      exact iteF (fin HB _ (Same.refl _) (if_neg w0).symm)
    rw [decide_eq_true (by rw [w0])]
    exact iteT ⟨_, rfl, _, rfl, TA, g, n, rfl, FB.tA, fun H3 s3 => fin H3 _ s3 (if_pos w0).symm⟩
  clear FB
  rintro σ HB ⟨c, l, TA, n, rs, gs, vo, g, x, v6, v7, rfl, FB⟩
  refine ⟨?_, ?_⟩
  · have fin : ∀ (H' : Hp) (d : Str), Same HB H' → W2 (w1W (fstW c n gs) n g) d n vo → ME K Pt H (SA c n l TA x (some (.str d)) v6 v7) H' := fun H' d s' e => ⟨c, l, TA, n, rs, gs, vo, g, x, d, _, _, rfl, FB.mono s', e⟩
    refine ⟨_, rfl, rfl, _, rfl, ?_⟩
    show if decide (V.str (w1W (fstW c n gs) n g) = V.str ("" : Str)) = true then _ else _
    by_cases w1 : w1W (fstW c n gs) n g = ""
    case neg =>
      rw [decide_eq_false (fun h => w1 (strV.mp h))]
      exact iteF (iteF (fin HB _ (Same.refl _) (.inl ⟨w1, rfl⟩)))
    rw [decide_eq_true (by rw [w1])]
    have w0 : fstW c n gs = "" := by
      by_cases h : fstW c n gs = ""
      · exact h
      · unfold w1W at w1; rw [if_neg h] at w1; exact w1
    obtain ⟨c12, fg⟩ := fst_nil w0
    refine iteT ⟨_, rfl, _, rfl, l, _, rfl, .inl FB.O.lst, fun L hL => ?_⟩
    have sL := Same.new (o := .lst (rs.map V.ref)) hL
    refine ⟨c, L, n, rs, gs, vo, rfl, FB.O.copy sL upd_same, (fun h => absurd c12 h), (fun _ h => by rw [fg] at h; exact absurd h (by decide)), (fun _ h => by rw [fg] at h; exact absurd h (by decide)), fun _ _ => ⟨fun nT H3 s3 => ⟨_, rfl, iteF ?_⟩, fun Tn rr H3 s3 => ⟨_, rfl, iteT ?_⟩⟩⟩
    · rw [w1]
      exact fin H3 "" (sL.trans' s3) (.inr (.inr ⟨w1, nT, rfl⟩))
    · exact fin H3 "torn" (sL.trans' s3) (.inr (.inl ⟨w1, Tn, rfl⟩))
  clear FB
  rintro σ HB ⟨c, l, TA, n, rs, gs, vo, g, x, w2, v6, v7, rfl, FB, hw2⟩
  refine ⟨?_, ?_⟩
  · refine ⟨FB.tb, fun H2 T2 s2 => ?_⟩
    have F2 := FB.monoP T2 s2
    refine ⟨_, rfl, _, rfl, l, _, rfl, .inl F2.O.lst, fun L hL => ?_⟩
    have sL := Same.new (o := .lst (rs.map V.ref)) hL
    have tL := sL.seqT F2.tA
    refine ⟨_, rfl, TA, _, _, .int g.q, rfl, rfl, tL, rfl, _, rfl, TA, _, _, .str g.a, rfl, rfl, tL, rfl, _, rfl, TA, _, _, .int g.r, rfl, rfl, tL, rfl, _, rfl, TA, _, _, .str g.b, rfl, rfl, tL, rfl, ?_⟩
    have du : ∀ {w : Str}, w ≠ "" → w1W (fstW c n gs) n g = w → w2 = w := fun h e => by
      rcases hw2 with ⟨_, h2⟩ | ⟨h1, _⟩ | ⟨h1, _⟩
      · exact h2.trans e
      · rw [e] at h1; exact absurd h1 h
      · rw [e] at h1; exact absurd h1 h
    have d0 : ∀ {w : Str}, w ≠ "" → fstW c n gs = w → w1W (fstW c n gs) n g = w := fun h e => by unfold w1W; rw [e, if_neg h]
    have d1 : (1 ≤ c ∧ c ≤ 12) → firstG n gs = "" → w1W (fstW c n gs) n g = gW n g := fun c12 h => by unfold w1W; rw [fst_ok c12, h, if_pos rfl]
    refine ⟨c, L, n, rs, gs, vo, g, rfl, F2.O.copy sL upd_same, fun h => ?_, fun c12 h => ?_, fun c12 h => ?_, fun c12 h => ⟨fun z => ?_, fun z => ?_, fun z Tn => ?_, fun z nT v H3 s3 => toldQ.mk fun r hr' => ?_⟩⟩
    · skip
      intro dx' HC sC eC
      refine ⟨BB, dx', "bad count", rfl, rfl, eC, ZB.s, ZB.k, fun HD r sD hr' => ?_⟩
      have sR := sL.trans' (sC.trans' (sD.trans' (Same.new (o := .tup [.str "bad count"]) hr')))
      exact ⟨c, l, TA, r, n, rs, gs, vo, g, x, w2, _, rfl, F2.mono sR, WR.word (du (by decide) (d0 (by decide) (fst_bad h))) upd_same (by decide) (by decide)⟩
    · skip
      intro dx' HC sC eC
      refine ⟨BQ, dx', "no question", rfl, rfl, eC, ZQ.s, ZQ.k, fun HD r sD hr' => ?_⟩
      have sR := sL.trans' (sC.trans' (sD.trans' (Same.new (o := .tup [.str "no question"]) hr')))
      exact ⟨c, l, TA, r, n, rs, gs, vo, g, x, w2, _, rfl, F2.mono sR, WR.word (du (by decide) (d0 (by decide) ((fst_ok c12).trans h))) upd_same (by decide) (by decide)⟩
    · skip
      intro dx' HC sC eC
      refine ⟨BG, dx', "bad sign", rfl, rfl, eC, ZG.s, ZG.k, fun HD r sD hr' => ?_⟩
      have sR := sL.trans' (sC.trans' (sD.trans' (Same.new (o := .tup [.str "bad sign"]) hr')))
      exact ⟨c, l, TA, r, n, rs, gs, vo, g, x, w2, _, rfl, F2.mono sR, WR.word (du (by decide) (d0 (by decide) ((fst_ok c12).trans h))) upd_same (by decide) (by decide)⟩
    · skip
      intro dx' HC sC eC
      refine ⟨BQ, dx', "no question", rfl, rfl, eC, ZQ.s, ZQ.k, fun HD r sD hr' => ?_⟩
      have sR := sL.trans' (sC.trans' (sD.trans' (Same.new (o := .tup [.str "no question"]) hr')))
      exact ⟨c, l, TA, r, n, rs, gs, vo, g, x, w2, _, rfl, F2.mono sR, WR.word (du (by decide) ((d1 c12 h).trans z)) upd_same (by decide) (by decide)⟩
    · skip
      intro dx' HC sC eC
      refine ⟨BG, dx', "bad sign", rfl, rfl, eC, ZG.s, ZG.k, fun HD r sD hr' => ?_⟩
      have sR := sL.trans' (sC.trans' (sD.trans' (Same.new (o := .tup [.str "bad sign"]) hr')))
      exact ⟨c, l, TA, r, n, rs, gs, vo, g, x, w2, _, rfl, F2.mono sR, WR.word (du (by decide) ((d1 c12 h).trans z)) upd_same (by decide) (by decide)⟩
    · have e2 : w2 = "torn" := by
        rcases hw2 with ⟨h1, _⟩ | ⟨_, _, h2⟩ | ⟨_, h2, _⟩
        · exact absurd ((d1 c12 h).trans z) h1
        · exact h2
        · exact absurd Tn h2
      intro dx' HC sC eC
      refine ⟨BS, dx', "torn", rfl, rfl, eC, X.sS, X.kS, fun HD r sD hr' => ?_⟩
      have sR := sL.trans' (sC.trans' (sD.trans' (Same.new (o := .tup [.str "torn"]) hr')))
      exact ⟨c, l, TA, r, n, rs, gs, vo, g, x, w2, _, rfl, F2.mono sR, WR.word (e2) upd_same (by decide) (by decide)⟩
    · have e2 : w2 = "" := by
        rcases hw2 with ⟨h1, _⟩ | ⟨_, h2, _⟩ | ⟨_, _, h2⟩
        · exact absurd ((d1 c12 h).trans z) h1
        · exact absurd h2 nT
        · exact h2
      have sR := sL.trans' (s3.trans' (Same.new (o := .tup [.str "told", v]) hr'))
      exact ⟨c, l, TA, r, n, rs, gs, vo, g, x, w2, _, rfl, F2.mono sR, WR.said (e2) upd_same⟩
  clear FB hw2
  rintro σ HA ⟨c, l, TA, r, n, rs, gs, vo, g, x, w2, v7, rfl, FA', wr⟩
  rcases wr with ⟨w0, tv, er⟩ | ⟨w0, wt, er⟩
  · have d2 : decide (V.str w2 = V.str ("" : Str)) = true := decide_eq_true (by rw [w0])
    refine ⟨_, rfl, r, _, _, .str "told", rfl, rfl, SqT.of er, rfl, rfl, _, rfl, rfl, rfl, _, rfl, ?_⟩
    show if decide (V.bl (!decide (V.str ("told" : Str) = V.str ("told" : Str))) = V.bl (!decide (V.str w2 = V.str ("" : Str)))) = true then _ else _
    rw [d2, decide_eq_true (rfl : V.str ("told" : Str) = V.str ("told" : Str)), decide_eq_true (rfl : V.bl (!true) = V.bl (!true))]
    refine iteT ⟨_, rfl, rfl, _, rfl, ?_⟩
    show if decide (V.str w2 = V.str ("" : Str)) = true then _ else _
    rw [d2]
    exact iteT (k _ FA'.tb FA'.sp)
  · have d1 : decide (V.str w2 = V.str ("told" : Str)) = false := decide_eq_false fun h => wt (strV.mp h)
    have d2 : decide (V.str w2 = V.str ("" : Str)) = false := decide_eq_false fun h => w0 (strV.mp h)
    refine ⟨_, rfl, r, _, _, .str w2, rfl, rfl, SqT.of er, rfl, rfl, _, rfl, rfl, rfl, _, rfl, ?_⟩
    show if decide (V.bl (!decide (V.str w2 = V.str ("told" : Str))) = V.bl (!decide (V.str w2 = V.str ("" : Str)))) = true then _ else _
    rw [d1, d2, decide_eq_true (rfl : V.bl (!false) = V.bl (!false))]
    refine iteT ⟨_, rfl, rfl, _, rfl, ?_⟩
    show if decide (V.str w2 = V.str ("" : Str)) = true then _ else _
    rw [d2]
    refine iteF ⟨_, rfl, _, rfl, len_le (show 1 ≤ 100 by decide), fun T3 hT3 => ?_⟩
    have s3 := Same.new (o := .tup [.str w2]) hT3
    refine ⟨_, _, _, _, rfl, den_t1 (s3 _ _ er) (.str _), den_t1 upd_same (.str _), (show 1 + max 0 0 ≤ 1 by decide), fun HN sN => ?_⟩
    rw [eqb_t1]
    have FN := FA'.mono (s3.trans' sN)
    exact k _ FN.tb FN.sp
end
end K28
set_option Elab.async false
set_option linter.all false
set_option maxRecDepth 100000
set_option maxHeartbeats 4000000
namespace K28
open PySem L2
open PyProof.Rows (envOfC)
abbrev s_law : Stmt := top 48
def toGV (v : Vow) : GV := ⟨v.q, ⟨#[v.a]⟩, v.r, ⟨#[v.b]⟩⟩
theorem vows_gvs {K : PySem.W.Frag} {H : Hp} {n : Nat} {rs : List Addr} {vo : List Vow} (h : Vows K H n rs vo) : GVs K H rs (vo.map toGV) := ⟨by rw [List.length_map]; exact h.1, fun i r g hr hg => by
  rw [List.getElem?_map] at hg
  cases z : vo[i]? with
  | none => rw [z] at hg; cases hg
  | some v =>
    rw [z] at hg
    cases hg
    exact (h.2 i r v hr z).1⟩
theorem seqT_upd {K : PySem.W.Frag} {H : Hp} {a c : Addr} {xs ys zs : List V} (h : SqT K H a xs) (e : H c = some (.lst ys)) : SqT K (upd H c (.lst zs)) a xs := by
  rcases h with (h | ⟨o, h⟩) | h
  · exact .inl (.inl (by rw [upd_ne (fun w => by rw [w, e] at h; cases h)]; exact h))
  · exact .inl (.inr ⟨o, by rw [upd_ne (fun w => by rw [w, e] at h; cases h)]; exact h⟩)
  · exact .inr h
theorem GVs.set {K : PySem.W.Frag} {H : Hp} {c T : Addr} {rs : List Addr} {gs : List GV} {g : GV} {ys zs : List V} {j : Nat} (h : GVs K H rs gs) (e : H c = some (.lst ys)) (hT : SqT K H T g.vals) : GVs K (upd H c (.lst zs)) (rs.set j T) (gs.set j g) := by
  refine ⟨by rw [List.length_set, List.length_set]; exact h.1, fun i r u hr hu => seqT_upd ?_ e⟩
  rw [List.getElem?_set] at hr hu
  by_cases c' : j = i
  · rw [if_pos c'] at hr hu
    split at hr
    · split at hu
      · cases hr; cases hu; exact hT
      · cases hu
    · cases hr
  · rw [if_neg c'] at hr hu
    exact h.2 i r u hr hu
theorem GVs.drop {K : PySem.W.Frag} {H : Hp} {rs : List Addr} {gs : List GV} (h : GVs K H rs gs) (k : Nat) : GVs K H (rs.drop k) (gs.drop k) := ⟨by rw [List.length_drop, List.length_drop, h.1], fun i r u hr hu => by
  rw [List.getElem?_drop] at hr hu
  exact h.2 _ r u hr hu⟩
theorem cutD (xs : List V) (k : Nat) (h : k ≤ xs.length) : cutV xs (some (k : Int)) none = xs.drop k := by
  unfold cutV
  have e1 : HT.sIx xs.length 0 (some (k : Int)) = k := by
    unfold HT.sIx
    simp only
    split <;> omega
  have e2 : HT.sIx xs.length xs.length none = xs.length := rfl
  rw [e1, e2, List.take_of_length_le]
  rw [List.length_drop]
  omega
theorem pickR {rs : List Addr} (h : 0 < rs.length) (d : Int) : ∃ (j : Nat) (r : Addr), j < rs.length ∧ d % (((rs.map V.ref).length : Nat) : Int) = (j : Int) ∧ rs[j]? = some r := by
  rw [List.length_map]
  have b : 0 ≤ d % (rs.length : Int) ∧ d % (rs.length : Int) < rs.length := ⟨Int.emod_nonneg _ (by omega), Int.emod_lt_of_pos _ (by omega)⟩
  refine ⟨(d % (rs.length : Int)).toNat, rs[(d % (rs.length : Int)).toNat]'(by omega), by omega, by omega, List.getElem?_eq_getElem _⟩
theorem rep_len (a : Nat) (n : Nat) : (strRep (⟨#[a]⟩ : Str) (n : Int)).length = n := by rw [tx_rep1, tx_len]
theorem six_str {n : Nat} (n1 : 1 ≤ n) (n12 : n ≤ 12) (y : Int) : ∃ z : Str, z.length ≤ 100 ∧ atI [V.str (strRep ("-" : Str) (n : Int)), .str (strRep ("yn" : Str) 6), .str "", .str (strRep ("n" : Str) ((n : Int) - 1) ++ "x"), .str (strRep ("-" : Str) ((n : Int) + 1)), .str (strRep ("y" : Str) (n : Int))] (y % 6) = some (.str z) := by
  have e1 : (n : Int) + 1 = ((n + 1 : Nat) : Int) := by omega
  have e2 : (n : Int) - 1 = ((n - 1 : Nat) : Int) := by omega
  rw [e1, e2]
  have : y % 6 = 0 ∨ y % 6 = 1 ∨ y % 6 = 2 ∨ y % 6 = 3 ∨ y % 6 = 4 ∨ y % 6 = 5 := by omega
  rcases this with e | e | e | e | e | e <;> rw [e]
  · exact ⟨_, by rw [show ("-" : Str) = ⟨#[45]⟩ from rfl, rep_len]; omega, rfl⟩
  · exact ⟨_, by decide, rfl⟩
  · exact ⟨_, by decide, rfl⟩
  · refine ⟨_, ?_, rfl⟩
    show ((strRep ("n" : Str) ((n - 1 : Nat) : Int)).cps ++ ("x" : Str).cps).size ≤ 100
    rw [Array.size_append]
    have : (strRep ("n" : Str) ((n - 1 : Nat) : Int)).cps.size = n - 1 := rep_len 110 (n - 1)
    have : ("x" : Str).cps.size = 1 := rfl
    omega
  · exact ⟨_, by rw [show ("-" : Str) = ⟨#[45]⟩ from rfl, rep_len]; omega, rfl⟩
  · exact ⟨_, by rw [show ("y" : Str) = ⟨#[121]⟩ from rfl, rep_len]; omega, rfl⟩
theorem four_cnt (y : Int) : ∃ c : Int, ¬ (1 ≤ c ∧ c ≤ 12) ∧ atI [V.int 0, .int 13, .int (-1), .int (10 ^ (40 : Int).toNat)] (y % 4) = some (.int c) := by
  have : y % 4 = 0 ∨ y % 4 = 1 ∨ y % 4 = 2 ∨ y % 4 = 3 := by omega
  rcases this with e | e | e | e <;> rw [e]
  · exact ⟨0, by decide, rfl⟩
  · exact ⟨13, by decide, rfl⟩
  · exact ⟨-1, by decide, rfl⟩
  · exact ⟨10 ^ (40 : Int).toNat, by decide, rfl⟩
theorem two_int (y : Int) : ∃ z : Int, (0 < z ∧ z < 1073741824) ∧ atI [V.int 1, .int 4] (y % 2) = some (.int z) := by
  have : y % 2 = 0 ∨ y % 2 = 1 := by omega
  rcases this with e | e <;> rw [e]
  · exact ⟨1, by decide, rfl⟩
  · exact ⟨4, by decide, rfl⟩
structure Fl (K : PySem.W.Frag) (Pt : Addr) (H : Hp) (p l : Addr) (n : Nat) (ms : List Int) (rs : List Addr) (vo : List Vow) : Prop where
  tb : TabOk H Pt qA
  ep : H p = some (.lst (ms.map V.int))
  el : H l = some (.lst (rs.map V.ref))
  vows : Vows K H n rs vo
  len : rs.length ≤ 100
  pos : 0 < rs.length
  n1 : 1 ≤ n
  n12 : n ≤ 12
theorem Fl.mono {K : PySem.W.Frag} {Pt : Addr} {H H' : Hp} {p l : Addr} {n : Nat} {ms : List Int} {rs : List Addr} {vo : List Vow} (h : Fl K Pt H p l n ms rs vo) (s : Same H H') : Fl K Pt H' p l n ms rs vo := ⟨h.tb.same s, s _ _ h.ep, s _ _ h.el, h.vows.mono s, h.len, h.pos, h.n1, h.n12⟩
theorem Fl.monoP {K : PySem.W.Frag} {Pt : Addr} {H H' : Hp} {p l : Addr} {n : Nat} {ms : List Int} {rs : List Addr} {vo : List Vow} (h : Fl K Pt H p l n ms rs vo) (T : TabOk H' Pt qA) (s : SameP Pt H H') : Fl K Pt H' p l n ms rs vo :=
  ⟨T, keepP h.tb s h.ep (fun ps z => by cases z), keepP h.tb s h.el (fun ps z => by cases z), ⟨h.vows.1, fun i r v a b => ⟨seqT_P h.tb s (h.vows.2 i r v a b).1, (h.vows.2 i r v a b).2⟩⟩, h.len, h.pos, h.n1, h.n12⟩
def MI (K : PySem.W.Frag) (Pt : Addr) : St → Hp → Prop := fun σ H => ∃ (p l : Addr) (n : Nat) (ms : List Int) (rs : List Addr) (vo : List Vow) (v3 v4 v5 v6 v7 v8 v9 : Option V), σ = [some (.ref p), some (.int n), some (.ref l), v3, v4, v5, v6, v7, v8, v9] ∧ Fl K Pt H p l n ms rs vo
def M1 (K : PySem.W.Frag) (Pt : Addr) : St → Hp → Prop := fun σ H => ∃ (p l u c : Addr) (n k : Nat) (ms : List Int) (rs rs' : List Addr) (vo : List Vow) (gs : List GV) (d0 d1 d2 d3 d4 d5 d6 : Int) (H0 : Hp) (v6 v7 v8 v9 : Option V), σ = [some (.ref p), some (.int n), some (.ref l), some (.int k), some (.ref u), some (.ref c), v6, v7, v8, v9] ∧ k < 12 ∧ Fl K Pt H0 p l n ms rs vo ∧ Same H0 H ∧ H0 c = none ∧ H0 u = some (.lst [.int d0, .int d1, .int d2, .int d3, .int d4, .int d5, .int d6]) ∧ H c = some (.lst (rs'.map V.ref)) ∧ GVs K H rs' gs ∧ 0 < rs'.length ∧ rs'.length ≤ 100
def M2 (K : PySem.W.Frag) (Pt : Addr) : St → Hp → Prop := fun σ H => ∃ (p l u c TA : Addr) (n : Nat) (ms : List Int) (rs rs' : List Addr) (vo : List Vow) (gs : List GV) (g : GV) (d0 d1 d2 d3 d4 d5 d6 : Int) (H0 : Hp) (v3 v6 v8 v9 : Option V), σ = [some (.ref p), some (.int n), some (.ref l), v3, some (.ref u), some (.ref c), v6, some (.ref TA), v8, v9] ∧ Fl K Pt H0 p l n ms rs vo ∧ Same H0 H ∧ H0 u = some (.lst [.int d0, .int d1, .int d2, .int d3, .int d4, .int d5, .int d6]) ∧ H c = some (.lst (rs'.map V.ref)) ∧ GVs K H rs' gs ∧ rs'.length ≤ 100 ∧ SqT K H TA g.vals
section
variable {P : Program} {w : World} {K : PySem.W.Frag} {mg : Str → Option Value} {base : Heap} {Pt : Addr}
abbrev N_lw : List Str := ["_law_script", "_law_n", "_law_vows_here", "_law_k", "_law_drawn", "_law_some", "_law_at", "_law_asked_here", "_law_pattern", "_law_count_here"]
abbrev P_lw : List Str := ["_law_script"]
theorem sc_lw : FnScope N_lw P_lw (defScope s_law) := ⟨rfl, rfl, rfl, by decide +kernel, rfl, by decide +kernel, by decide +kernel⟩
def spLaw (K : PySem.W.Frag) (Pt : Addr) : Sp := fun vs H Q _ => ∃ (a : Addr) (ns : List Int), vs = [.ref a] ∧ SqL K H a (ns.map V.int) ∧ ns.length ≤ 63 ∧ H Pt = some (.tbl #[]) ∧ ∀ H', Q (.bl true) H'
theorem ok_law {f fl fr fc fv fs fa : Addr} {fd gl gr gc gv gs' ga : FuncData} (D : Df K mg "law" s_law ["_law_script"] f fd) (Dl : Df K mg "_law_cell" s_cell ["_law_script", "_law_k"] fl gl) (Dr : Df K mg "_law_draws" s_draws Pdr fr gr) (Dc : Df K mg "_law_count" s_count ["_law_cell_here"] fc gc)
    (Dv : Df K mg "_law_vows" s_vows PV fv gv) (Gv : FnOk P w K mg base (CXE P w) 2 fv gv PV (spVows K)) (Dp : Df K mg "_law_spoilt" s_spoilt P_sp fs gs') (Da : Df K mg "_law_asked" s_asked P_ak fa ga) (Ga : FnOk P w K mg base (CXE P w) 11 fa ga P_ak (spAsked K Pt)) (B : Bt mg) : FnOk P w K mg base (CXE P w) 12 f fd ["_law_script"] (spLaw K Pt) := by
  refine D.F.okN sc_lw (fun vs H Q E h => ?_) (fun cdv A outer s H vs Q E hr h => ?_)
  · obtain ⟨a, ns, rfl, _⟩ := h
    rfl
  obtain ⟨a, ns, rfl, hS, hl, hP, k⟩ := h
  refine ⟨_, pss_cons (ps_set (i := 0) sc_lw.nd rfl (Or.inl rfl) (pe_slice sl_list (pv 0) po_none (po_some pe_int)))
      (pss_cons (ps_set (i := 1) sc_lw.nd rfl (Or.inl rfl) (pe_fn Dc (ok_count Dc Dr B) (hr.mono (by decide)) passN (pa_cons (pe_fn Dl (ok_cell Dl B) (hr.mono (by decide)) passN (pa_cons (pv 0) (pa_cons pe_int pa_nil))) pa_nil)))
      (pss_cons (ps_set (i := 2) sc_lw.nd rfl (Or.inl rfl) (pe_fn Dv Gv (hr.mono (by decide)) passN (pa_cons (pe_op op_cat (pe_slice sl_list (pv 0) (po_some pe_int) po_none) (pe_lst (pa_cons pe_int (pa_cons pe_int pa_nil)))) (pa_cons (pv 1) (pa_cons (pe_fn Dl (ok_cell Dl B) (hr.mono (by decide)) passN (pa_cons (pv 0) (pa_cons pe_int pa_nil))) pa_nil)))))
      (pss_cons (ps_for PassesOwn.never rfl (pi_range1 (by rfl) B.range (pa_cons pe_int pa_nil)) (pg_name (i := 3) sc_lw.nd rfl (Or.inl rfl))
      (pss_cons (ps_set (i := 4) sc_lw.nd rfl (Or.inl rfl) (pe_fn Dr (ok_draws Dr B) (hr.mono (by decide)) passN (pa_cons (pe_op op_add (pe_fn Dl (ok_cell Dl B) (hr.mono (by decide)) passN (pa_cons (pv 0) (pa_cons (pe_op op_add pe_int (pv 3)) pa_nil))) (pe_op op_mul pe_int (pv 3))) (pa_cons (pe_lst (pa_cons pe_int (pa_cons pe_int (pa_cons pe_int (pa_cons pe_int (pa_cons pe_int (pa_cons pe_int (pa_cons pe_int pa_nil)))))))) pa_nil))))
      (pss_cons (ps_set (i := 5) sc_lw.nd rfl (Or.inl rfl) (pe_slice sl_list (pv 2) (po_some (pe_op op_mod (pe_ix ix_list (pv 4) pe_int (fun _ _ => rfl)) (pe_callB call_len_seq (by rfl) B.len PySem.boot_len (pa_cons (pv 2) pa_nil)))) po_none))
      (pss_cons (ps_cut (M1 K Pt) (ps_if (pt_cmpR op_lt (pe_ix ix_list (pv 4) pe_int (fun _ _ => rfl)) pe_int (nomark _)) (pss_cons (ps_set (i := 6) sc_lw.nd rfl (Or.inl rfl) (pe_op op_mod (pe_ix ix_list (pv 4) pe_int (fun _ _ => rfl)) (pe_callB call_len_seq (by rfl) B.len PySem.boot_len (pa_cons (pv 5) pa_nil))))
      (pss_one (ps_asg (pe_fn Dp (ok_spoilt Dp B) (hr.mono (by decide)) passN (pa_cons (pe_ix ix_list (pv 5) (pv 6) (fun _ _ => rfl)) (pa_cons (pe_ix ix_list (pv 4) pe_int (fun _ _ => rfl)) (pa_cons (pv 1) pa_nil)))) (pg_sub (pv 5) (pv 6) set_list)))) pss_nil))
      (pss_cons (ps_cut (M1 K Pt) (ps_if (pt_cmpR op_in_seq (pe_ix ix_list (pv 4) pe_int (fun _ _ => rfl)) (pe_tup (pa_cons pe_int (pa_cons pe_int (pa_cons pe_int pa_nil)))) (by rfl)) (pss_cons (ps_set (i := 6) sc_lw.nd rfl (Or.inl rfl) (pe_op op_mod (pe_ix ix_list (pv 4) pe_int (fun _ _ => rfl)) (pe_callB call_len_seq (by rfl) B.len PySem.boot_len (pa_cons (pv 5) pa_nil))))
      (pss_one (ps_asg (pe_fn Dp (ok_spoilt Dp B) (hr.mono (by decide)) passN (pa_cons (pe_ix ix_list (pv 5) (pv 6) (fun _ _ => rfl)) (pa_cons (pe_ix ix_list (pv 4) pe_int (fun _ _ => rfl)) (pa_cons (pv 1) pa_nil)))) (pg_sub (pv 5) (pv 6) set_list)))) pss_nil))
      (pss_cons (ps_set (i := 7) sc_lw.nd rfl (Or.inl rfl) (pe_ix ix_list (pe_fn Dv Gv (hr.mono (by decide)) passN (pa_cons (pe_lst (pa_cons (pe_op op_add (pe_fn Dl (ok_cell Dl B) (hr.mono (by decide)) passN (pa_cons (pv 0) (pa_cons (pe_op op_add pe_int (pv 3)) pa_nil))) pe_int) pa_nil)) (pa_cons (pv 1) (pa_cons pe_int pa_nil)))) pe_int (fun _ _ => rfl)))
      (pss_cons (ps_cut (M2 K Pt) (ps_if (pt_cmpR op_in_seq (pe_ix ix_list (pv 4) pe_int (fun _ _ => rfl)) (pe_tup (pa_cons pe_int (pa_cons pe_int (pa_cons pe_int (pa_cons pe_int pa_nil))))) (by rfl)) (pss_one (ps_set (i := 7) sc_lw.nd rfl (Or.inl rfl) (pe_fn Dp (ok_spoilt Dp B) (hr.mono (by decide)) passN (pa_cons (pe_fn Dp (ok_spoilt Dp B) (hr.mono (by decide)) passN (pa_cons (pv 7) (pa_cons (pe_ix ix_list (pv 4) pe_int (fun _ _ => rfl)) (pa_cons (pv 1) pa_nil)))) (pa_cons (pe_op op_fdiv (pe_ix ix_list (pv 4) pe_int (fun _ _ => rfl)) (pe_ix ix_list (pe_lst (pa_cons pe_int (pa_cons pe_int pa_nil))) (pe_op op_mod (pe_ix ix_list (pv 4) pe_int (fun _ _ => rfl)) pe_int) (fun _ _ => rfl))) (pa_cons (pv 1) pa_nil)))))) pss_nil))
      (pss_cons (ps_set (i := 8) sc_lw.nd rfl (Or.inl rfl) (pe_ix ix_list (pe_lst (pa_cons (pe_op op_rep_str pe_str (pv 1)) (pa_cons (pe_op op_rep_str pe_str pe_int) (pa_cons pe_str (pa_cons (pe_op op_add_str (pe_op op_rep_str pe_str (pe_op op_sub (pv 1) pe_int)) pe_str) (pa_cons (pe_op op_rep_str pe_str (pe_op op_add (pv 1) pe_int)) (pa_cons (pe_op op_rep_str pe_str (pv 1)) pa_nil))))))) (pe_op op_mod (pe_ix ix_list (pv 4) pe_int (fun _ _ => rfl)) pe_int) (fun _ _ => rfl)))
      (pss_cons (ps_set (i := 9) sc_lw.nd rfl (Or.inl rfl) (pe_ifExp (pt_cmpR op_eq (pe_ix ix_list (pv 4) pe_int (fun _ _ => rfl)) pe_int (nomark _)) (pe_ix ix_list (pe_lst (pa_cons pe_int (pa_cons pe_int (pa_cons (pe_un un_neg pe_int) (pa_cons (pe_op op_pow pe_int pe_int) pa_nil))))) (pe_op op_mod (pe_ix ix_list (pv 4) pe_int (fun _ _ => rfl)) pe_int) (fun _ _ => rfl)) (pv 1)))
      (pss_one (ps_if (pt_not (pt_val (pe_fn Da Ga (hr.mono (by decide)) passN (pa_cons (pv 9) (pa_cons (pv 1) (pa_cons (pv 5) (pa_cons (pv 8) (pa_cons (pv 7) pa_nil)))))))) (pss_one (ps_ret pe_bl)) pss_nil)))))))))))
      (pss_one (ps_ret pe_bl))))), ?_⟩
  refine ⟨_, rfl, _, rfl, a, _, rfl, hS, fun p hp => ?_⟩
  obtain ⟨ms, em, lm⟩ : ∃ ys : List Int, cutV (ns.map V.int) none (some 63) = ys.map V.int ∧ ys.length ≤ ns.length := by
    unfold cutV
    rw [← List.map_drop, ← List.map_take]
    refine ⟨_, rfl, ?_⟩
    rw [List.length_take, List.length_drop]
    omega
  rw [em]
  have P0 := Same.new (o := .lst (ms.map V.int)) hp Pt _ hP
  refine ⟨_, rfl, p, ms, 0, rfl, SqL.of upd_same, _, rfl, fun n H2 n1 n12 s2 => ?_⟩
  have e2 := s2 p _ upd_same
  have P2 := s2 _ _ P0
  refine ⟨_, rfl, _, rfl, p, _, rfl, SqL.of e2, fun lc hlc => ?_⟩
  obtain ⟨xs, ex, lx⟩ : ∃ ys : List Int, cutV (ms.map V.int) (some 2) none = ys.map V.int ∧ ys.length ≤ ms.length := by
    unfold cutV
    rw [← List.map_drop, ← List.map_take]
    refine ⟨_, rfl, ?_⟩
    rw [List.length_take, List.length_drop]
    omega
  rw [ex]
  have sc := Same.new (o := .lst (xs.map V.int)) hlc
  refine ⟨len_le (show 2 ≤ 100 by decide), fun lb hlb => ?_⟩
  have sb := Same.new (o := .lst [.int 3, .int 8]) hlb
  refine ⟨lc, lb, _, _, rfl, rfl, sb _ _ upd_same, upd_same, ?_, fun ld hld => ?_⟩
  · rw [List.length_map]
    exact len_le (show xs.length + 2 ≤ 100 by omega)
  rw [show xs.map V.int ++ [V.int 3, V.int 8] = (xs ++ [3, 8]).map V.int by rw [List.map_append]; rfl]
  have sd := Same.new (o := .lst ((xs ++ [3, 8]).map V.int)) hld
  have s25 := sc.trans' (sb.trans' sd)
  have lxs : (xs ++ [3, 8]).length = xs.length + 2 := by rw [List.length_append]; rfl
  refine ⟨_, rfl, _, rfl, p, ms, 1, rfl, SqL.of (s25 _ _ e2), ld, xs ++ [3, 8], n, _, rfl, SqL.of upd_same, by omega, n1, n12, fun l H4 rs vo s4 _ el lr hv sg => ?_⟩
  have s24 := s25.trans' s4
  have F4 : Fl K Pt H4 p l n ms rs vo := ⟨⟨#[], s24 _ _ P2, True.intro, fun pos cv z => by cases z⟩, s24 _ _ e2, el, hv, by omega, by omega, n1, n12⟩
  refine ⟨_, rfl, by decide, by decide, ?_⟩
  refine for_range (n := 12) (fun i σ H4 => MI K Pt σ H4) ⟨p, l, n, ms, rs, vo, none, none, none, none, none, none, none, rfl, F4⟩ ?_ (fun σ H7 _ => k H7)
  clear F4 s24 s4 el lr hv sg s25 sd sb sc P2 e2 s2 P0 em lm ex lx n1 n12 lxs
  rintro i σ H7 hi ⟨p, l, n, ms, rs, vo, v3, v4, v5, v6, v7, v8, v9, rfl, F7⟩
  rw [Int.zero_add]
  have n1 := F7.n1
  have n12 := F7.n12
  have ek : (2 : Int) + (i : Int) = ((2 + i : Nat) : Int) := by omega
  refine ⟨_, rfl, _, rfl, _, _, rfl, rfl, p, ms, 2 + i, (by rw [← ek]; rfl), SqL.of F7.ep, _, rfl, _, _, rfl, rfl, .inl ⟨by decide, by decide⟩, _, _, rfl, rfl, len_le (show 7 ≤ 100 by decide), fun t' ht' => ?_⟩
  refine ⟨_, t', [11, 67, 67, 64, 64, 9, 13], rfl, SqL.of upd_same, by decide, by decide, fun u H8 s8 hu' e8 => ?_⟩
  obtain ⟨d0, d1, d2, d3, d4, d5, d6, ed⟩ : ∃ d0 d1 d2 d3 d4 d5 d6 : Int, (drawsM (cellM ms (2 + i) + 3 * (i : Int)) [11, 67, 67, 64, 64, 9, 13]).map V.int = [.int d0, .int d1, .int d2, .int d3, .int d4, .int d5, .int d6] := ⟨_, _, _, _, _, _, _, rfl⟩
  rw [ed] at e8
  have F8 := F7.mono ((Same.new ht').trans' s8)
  clear F7 s8
  have lenI : (0 : Int) < (((rs.map V.ref).length : Nat) : Int) := by rw [List.length_map]; have := F8.pos; omega
  obtain ⟨j0, r0, hj0, ej0, hr0⟩ := pickR F8.pos d1
  refine ⟨_, rfl, _, rfl, u, _, _, .int d1, rfl, rfl, SqL.of e8, rfl, _, rfl, l, _, rfl, .inl (SqL.of F8.el), _, _, rfl, rfl, lenI, _, rfl, l, _, rfl, SqL.of F8.el, fun c hc => ?_⟩
  rw [ej0, cutD _ _ (by rw [List.length_map]; omega), ← List.map_drop]
  have s9 := Same.new (o := .lst ((rs.drop j0).map V.ref)) hc
  have m1 : M1 K Pt [some (.ref p), some (.int n), some (.ref l), some (.int i), some (.ref u), some (.ref c), v6, v7, v8, v9] (upd H8 c (.lst ((rs.drop j0).map V.ref))) := ⟨p, l, u, c, n, i, ms, rs, rs.drop j0, vo, (vo.map toGV).drop j0, d0, d1, d2, d3, d4, d5, d6, H8, _, _, _, _, rfl, hi, F8, s9, hc, e8, upd_same, ((vows_gvs F8.vows).drop j0).mono s9, by rw [List.length_drop]; omega, by rw [List.length_drop]; have := F8.len; omega⟩
  generalize upd H8 c (.lst ((rs.drop j0).map V.ref)) = H9 at *
  obtain ⟨p, l, u, c, n, kk, ms, rs, rs', vo, gs, d0, d1, d2, d3, d4, d5, d6, H0, w6, w7, w8, w9, eσ, k12, F0, s0, hc0, eu, ec, gv, lp, l100⟩ := m1
  cases eσ
  clear F8 e8 s9 n1 n12 lenI hj0 ej0 hr0
  have n1 := F0.n1
  have n12 := F0.n12
  have euX := s0 _ _ eu
  refine ⟨?_, ?_⟩
  · refine ⟨_, rfl, u, _, _, .int d0, rfl, rfl, SqL.of euX, rfl, _, _, rfl, rfl, _, rfl, ite2 (fun _ => ?_) (fun _ => ?_)⟩
    · skip
      obtain ⟨j, r, hj, ej, hr⟩ := pickR lp d2
      have lI : (0 : Int) < (((rs'.map V.ref).length : Nat) : Int) := by rw [List.length_map]; omega
      refine ⟨_, rfl, u, _, _, .int d2, rfl, rfl, SqL.of euX, rfl, _, rfl, c, _, rfl, .inl (SqL.of ec), _, _, rfl, rfl, lI, ?_⟩
      obtain ⟨g, hg⟩ : ∃ g, gs[j]? = some g := ⟨_, List.getElem?_eq_getElem (by rw [← gv.1]; exact hj)⟩
      have atj : atI (rs'.map V.ref) (d2 % (((rs'.map V.ref).length : Nat) : Int)) = some (.ref r) := by rw [ej]; exact atI_nat (by rw [List.getElem?_map, hr]; rfl)
      refine ⟨_, rfl, _, rfl, c, _, _, _, rfl, rfl, SqL.of ec, atj, _, rfl, u, _, _, .int d3, rfl, rfl, SqL.of euX, rfl, _, rfl, r, g, d3, n, rfl, gv.2 j r g hr hg, n12, fun T' g' HY sY eT' => ?_⟩
      have ix : ixN (rs'.map V.ref).length (d2 % (((rs'.map V.ref).length : Nat) : Int)) = some j := by
        rw [ej]
        unfold ixN
        rw [if_pos (by omega), if_pos (by rw [List.length_map]; omega), Int.toNat_natCast]
      refine ⟨_, rfl, _, rfl, c, _, _, j, rfl, rfl, sY _ _ ec, ix, ?_⟩
      refine ⟨p, l, u, c, n, _, ms, rs, rs'.set j T', vo, gs.set j g', d0, d1, d2, d3, d4, d5, d6, H0, _, _, _, _, rfl, k12, F0, Same.grow hc0 (s0.trans' sY), hc0, eu, by rw [upd_same, List.map_set], (gv.mono sY).set (sY _ _ ec) (SqT.of eT'), by rw [List.length_set]; exact lp, by rw [List.length_set]; exact l100⟩
    · exact ⟨p, l, u, c, n, _, ms, rs, rs', vo, gs, d0, d1, d2, d3, d4, d5, d6, H0, _, _, _, _, rfl, k12, F0, s0, hc0, eu, ec, gv, lp, l100⟩
  clear F0 s0 hc0 eu ec gv lp l100 n1 n12 euX
  rintro σ H9 ⟨p, l, u, c, n, kk, ms, rs, rs', vo, gs, d0, d1, d2, d3, d4, d5, d6, H0, w6, w7, w8, w9, rfl, k12, F0, s0, hc0, eu, ec, gv, lp, l100⟩
  have n1 := F0.n1
  have n12 := F0.n12
  refine ⟨?_, ?_⟩
  · have euX := s0 _ _ eu
    refine ⟨_, rfl, u, _, _, .int d0, rfl, rfl, SqL.of euX, rfl, len_le (show 3 ≤ 100 by decide), fun A1 hA1 => ?_⟩
    have sA := Same.new (o := .tup [.int 0, .int 1, .int 7]) hA1
    refine ⟨A1, _, rfl, .inr (SqT.of upd_same), rfl, rfl, _, rfl, ?_⟩
    show if inV (.int d0) [.int 0, .int 1, .int 7] = true then _ else _
    have s0 := s0.trans' sA
    have ec := sA _ _ ec
    have gv := gv.mono sA
    have euX := sA _ _ euX
    generalize upd H9 A1 (.tup [.int 0, .int 1, .int 7]) = HX at *
    refine ite2 (fun _ => ?_) (fun _ => ?_)
    · skip
      obtain ⟨j, r, hj, ej, hr⟩ := pickR lp d5
      have lI : (0 : Int) < (((rs'.map V.ref).length : Nat) : Int) := by rw [List.length_map]; omega
      refine ⟨_, rfl, u, _, _, .int d5, rfl, rfl, SqL.of euX, rfl, _, rfl, c, _, rfl, .inl (SqL.of ec), _, _, rfl, rfl, lI, ?_⟩
      obtain ⟨g, hg⟩ : ∃ g, gs[j]? = some g := ⟨_, List.getElem?_eq_getElem (by rw [← gv.1]; exact hj)⟩
      have atj : atI (rs'.map V.ref) (d5 % (((rs'.map V.ref).length : Nat) : Int)) = some (.ref r) := by rw [ej]; exact atI_nat (by rw [List.getElem?_map, hr]; rfl)
      refine ⟨_, rfl, _, rfl, c, _, _, _, rfl, rfl, SqL.of ec, atj, _, rfl, u, _, _, .int d4, rfl, rfl, SqL.of euX, rfl, _, rfl, r, g, d4, n, rfl, gv.2 j r g hr hg, n12, fun T' g' HY sY eT' => ?_⟩
      have ix : ixN (rs'.map V.ref).length (d5 % (((rs'.map V.ref).length : Nat) : Int)) = some j := by
        rw [ej]
        unfold ixN
        rw [if_pos (by omega), if_pos (by rw [List.length_map]; omega), Int.toNat_natCast]
      refine ⟨_, rfl, _, rfl, c, _, _, j, rfl, rfl, sY _ _ ec, ix, ?_⟩
      refine ⟨p, l, u, c, n, _, ms, rs, rs'.set j T', vo, gs.set j g', d0, d1, d2, d3, d4, d5, d6, H0, _, _, _, _, rfl, k12, F0, Same.grow hc0 (s0.trans' sY), hc0, eu, by rw [upd_same, List.map_set], (gv.mono sY).set (sY _ _ ec) (SqT.of eT'), by rw [List.length_set]; exact lp, by rw [List.length_set]; exact l100⟩
    · exact ⟨p, l, u, c, n, kk, ms, rs, rs', vo, gs, d0, d1, d2, d3, d4, d5, d6, H0, _, _, _, _, rfl, k12, F0, s0, hc0, eu, ec, gv, lp, l100⟩
  clear F0 s0 hc0 eu ec gv lp l100 n1 n12
  rintro σ H9 ⟨p, l, u, c, n, kk, ms, rs, rs', vo, gs, d0, d1, d2, d3, d4, d5, d6, H0, w6, w7, w8, w9, rfl, k12, F0, s0, hc0, eu, ec, gv, lp, l100⟩
  have n1 := F0.n1
  have n12 := F0.n12
  have ek : (2 : Int) + (kk : Int) = ((2 + kk : Nat) : Int) := by omega
  refine ⟨_, rfl, _, rfl, _, _, rfl, rfl, p, ms, 2 + kk, (by rw [← ek]; rfl), SqL.of (s0 _ _ F0.ep), _, _, rfl, rfl, len_le (show 1 ≤ 100 by decide), fun t ht => ⟨_, rfl, t, [cellM ms (2 + kk) + 5], n, 0, rfl, SqL.of upd_same, (show 1 ≤ 100 by decide), n1, n12, fun q HA rs1 vo1 sA _ eq lr hv sg => ?_⟩⟩
  have sB := (Same.new (o := .lst [.int (cellM ms (2 + kk) + 5)]) ht).trans' sA
  obtain ⟨r1, h1⟩ : ∃ r1, rs1[0]? = some r1 := ⟨_, List.getElem?_eq_getElem (by rw [lr]; exact Nat.succ_pos _)⟩
  obtain ⟨v1, h2⟩ : ∃ v1, vo1[0]? = some v1 := ⟨_, List.getElem?_eq_getElem (by rw [← hv.1, lr]; exact Nat.succ_pos _)⟩
  have hT : SqT K HA r1 (toGV v1).vals := (hv.2 0 r1 v1 h1 h2).1
  refine ⟨q, _, _, .ref r1, rfl, rfl, SqL.of eq, (atI_nat (j := 0) (by rw [List.getElem?_map, h1]; rfl) : atI (rs1.map V.ref) ((0 : Nat) : Int) = some (.ref r1)), ?_⟩
  have s0A := s0.trans' sB
  have ecA := sB _ _ ec
  have gvA := gv.mono sB
  clear s0 ec gv eq lr hv sg h1 h2 sA sB
  refine ⟨?_, ?_⟩
  · have euX := s0A _ _ eu
    refine ⟨_, rfl, u, _, _, .int d0, rfl, rfl, SqL.of euX, rfl, len_le (show 4 ≤ 100 by decide), fun A1 hA1 => ?_⟩
    have sA := Same.new (o := .tup [.int 0, .int 4, .int 8, .int 9]) hA1
    refine ⟨A1, _, rfl, .inr (SqT.of upd_same), rfl, rfl, _, rfl, ?_⟩
    show if inV (.int d0) [.int 0, .int 4, .int 8, .int 9] = true then _ else _
    have s0 := s0A.trans' sA
    have ec := sA _ _ ecA
    have gv := gvA.mono sA
    have euX := sA _ _ euX
    have hT := sA.seqT hT
    generalize upd HA A1 (.tup [.int 0, .int 4, .int 8, .int 9]) = HX at *
    refine ite2 (fun _ => ?_) (fun _ => ?_)
    · refine ⟨_, rfl, _, rfl, u, _, _, .int d4, rfl, rfl, SqL.of euX, rfl, _, rfl, r1, toGV v1, d4, n, rfl, hT, n12, fun T1 g1 HY sY e1 => ?_⟩
      have euY := sY _ _ euX
      refine ⟨_, rfl, u, _, _, .int d3, rfl, rfl, SqL.of euY, rfl, len_le (show 2 ≤ 100 by decide), fun L hL => ?_⟩
      have sL := Same.new (o := .lst [.int 1, .int 4]) hL
      obtain ⟨z, bz, atz⟩ := two_int d0
      refine ⟨_, rfl, u, _, _, .int d0, rfl, rfl, SqL.of (sL _ _ euY), rfl, _, _, rfl, rfl, (show (0 : Int) < 2 by decide), L, _, _, .int z, rfl, rfl, SqL.of upd_same, atz, _, _, rfl, rfl, bz, _, rfl, T1, g1, _, n, rfl, SqT.of (sL _ _ e1), n12, fun T2 g2 HZ sZ e2 => ?_⟩
      have sXZ := sY.trans' (sL.trans' sZ)
      exact ⟨p, l, u, c, T2, n, ms, rs, rs', vo, gs, g2, d0, d1, d2, d3, d4, d5, d6, H0, _, _, _, _, rfl, F0, s0.trans' sXZ, eu, sXZ _ _ ec, gv.mono sXZ, l100, SqT.of e2⟩
    · exact ⟨p, l, u, c, r1, n, ms, rs, rs', vo, gs, toGV v1, d0, d1, d2, d3, d4, d5, d6, H0, _, _, _, _, rfl, F0, s0, eu, ec, gv, l100, hT⟩
  clear F0 s0A hc0 eu ecA gvA lp l100 n1 n12 hT
  rintro σ H9 ⟨p, l, u, c, TA, n, ms, rs, rs', vo, gs, g, d0, d1, d2, d3, d4, d5, d6, H0, w3, w6, w8, w9, rfl, F0, s0, eu, ec, gv, l100, hT⟩
  have n1 := F0.n1
  have n12 := F0.n12
  have euX := s0 _ _ eu
  obtain ⟨x, lx, atx⟩ := six_str n1 n12 d6
  refine ⟨_, rfl, _, _, rfl, rfl, by omega, by omega, by decide, _, _, rfl, rfl, by decide, by decide, by decide, _, rfl, _, _, rfl, rfl, _, _, rfl, rfl, by omega, by omega, by decide, _, _, rfl, rfl, ?_, _, rfl, _, _, rfl, rfl, _, _, rfl, rfl, by omega, by omega, by decide, _, rfl, _, _, rfl, rfl, by omega, by omega, by decide, len_le (show 6 ≤ 100 by decide), fun L hL => ?_⟩
  · rw [show (n : Int) - 1 = ((n - 1 : Nat) : Int) by omega, show ("n" : Str) = ⟨#[110]⟩ from rfl, rep_len, sizeLine_eq]
    show n - 1 + 1 ≤ _
    omega
  have sL := Same.new (o := .lst [V.str (strRep ("-" : Str) (n : Int)), .str (strRep ("yn" : Str) 6), .str "", .str (strRep ("n" : Str) ((n : Int) - 1) ++ "x"), .str (strRep ("-" : Str) ((n : Int) + 1)), .str (strRep ("y" : Str) (n : Int))]) hL
  refine ⟨_, rfl, u, _, _, .int d6, rfl, rfl, SqL.of (sL _ _ euX), rfl, _, _, rfl, rfl, (show (0 : Int) < 6 by decide), L, _, _, .str x, rfl, rfl, SqL.of upd_same, atx, ?_⟩
  have s0 := s0.trans' sL
  have ec := sL _ _ ec
  have gv := gv.mono sL
  have euX := sL _ _ euX
  have hT := sL.seqT hT
  generalize upd H9 L (.lst [V.str (strRep ("-" : Str) (n : Int)), .str (strRep ("yn" : Str) 6), .str "", .str (strRep ("n" : Str) ((n : Int) - 1) ++ "x"), .str (strRep ("-" : Str) ((n : Int) + 1)), .str (strRep ("y" : Str) (n : Int))]) = HX at *
  clear sL hL atx
  refine (fun (R : ∀ (cN : Int) (H' : Hp), Same HX H' → ((1 ≤ cN ∧ cN ≤ 12) → cN = n) → (?G : Int → Hp → Prop) cN H') => ?main) ?rest
  case main =>
    refine ⟨_, rfl, u, _, _, .int d5, rfl, rfl, SqL.of euX, rfl, rfl, _, rfl, ite2 (fun _ => ?_) (fun _ => ?_)⟩
    · obtain ⟨cN, nc, atc⟩ := four_cnt d6
      refine ⟨_, rfl, _, _, rfl, rfl, (show (0 : Int) ≤ 40 ∧ (40 : Int) ≤ 1000000 ∧ (10 : Int).natAbs < 2 ^ 64 by decide), len_le (show 4 ≤ 100 by decide), fun L hL => ?_⟩
      have sL := Same.new (o := .lst [.int 0, .int 13, .int (-1), .int (10 ^ (40 : Int).toNat)]) hL
      refine ⟨_, rfl, u, _, _, .int d6, rfl, rfl, SqL.of (sL _ _ euX), rfl, _, _, rfl, rfl, (show (0 : Int) < 4 by decide), L, _, _, .int cN, rfl, rfl, SqL.of upd_same, atc, ?_⟩
      generalize upd HX L (.lst [.int 0, .int 13, .int (-1), .int (10 ^ (40 : Int).toNat)]) = HY at *
      exact R cN HY sL fun h => absurd h nc
    · refine ⟨_, rfl, ?_⟩
      exact R n HX (Same.refl _) fun _ => rfl
  case rest =>
    intro cN HY sY cn
    have s0Y := s0.trans' sY
    have FY := F0.mono s0Y
    obtain ⟨vo', good⟩ : ∃ vo', firstG n gs = "" → Vows K HY n rs' vo' ∧ VSg vo' := by
      by_cases fg : firstG n gs = ""
      · obtain ⟨vo', h1, h2⟩ := (gv.mono sY).good (firstG_good fg)
        exact ⟨vo', fun _ => ⟨h1, h2⟩⟩
      · exact ⟨[], fun h => absurd h fg⟩
    refine ⟨_, rfl, _, rfl, _, rfl, _, rfl, _, rfl, cN, c, TA, n, rs', gs, vo', g, x, rfl, ⟨FY.tb, SameP.refl _ _, ⟨SqL.of (sY _ _ ec), gv.mono sY, l100, cn, good⟩, sY.seqT hT, lx, n1, n12⟩, fun HZ tZ sZ => ⟨_, rfl, iteF ?_⟩⟩
    exact ⟨p, l, n, ms, rs, vo, _, _, _, _, _, _, _, rfl, FY.monoP tZ sZ⟩
end
end K28
set_option Elab.async false
set_option linter.all false
set_option maxRecDepth 100000
set_option maxHeartbeats 1000000
namespace K28
open PySem L2
theorem all_mk {l : PySem.W.OpenLaw} {w : World} {K : PySem.W.Frag} {h : Heap} {mg : Str → Option Value} {fa cc Pt  f1 f2 f3 f4 f5 f6 f7 f8 f9 f10 f11 f12 f13 f14 f15 f16 f17 f18 f19 f20 f21 f22 f23 f24 f25 f26 f27 f28 f29 f30 f31 f32 f33 f34 f35  : Addr} (X : K.In h) (G : h.Ns mainGlobals mg) (hfa : mg "law" = some (.ref fa))
    {od1 an1 od2 an2 od3 an3 od4 an4 od5 an5 od6 an6 od7 an7 od8 an8 od9 an9 od10 an10 od11 an11 od12 an12 od13 an13 od14 an14 od15 an15 od16 an16 od17 an17 od18 an18 od19 an19 od20 an20 od21 an21 od22 an22 od23 an23 od24 an24 od25 an25 od26 an26 od27 an27 od28 an28 od29 an29 od30 an30 od31 an31 od32 an32 od33 an33 od34 an34 od35 an35  : Option Addr} {sl1 sl2 sl3 sl4 sl5 sl6 sl7 sl8 sl9 sl10 sl11 sl12 sl13 sl14 sl15 sl16 sl17 sl18 sl19 sl20 sl21 sl22 sl23 sl24 sl25 sl26 sl27 sl28 sl29 sl30 sl31 sl32 sl33 sl34 sl35  : Array (Option Value)} {oc1 kV1 dc1 pm1 cd1 ct1 oc2 kV2 dc2 pm2 cd2 ct2 oc3 kV3 dc3 pm3 cd3 ct3 oc4 kV4 dc4 pm4 cd4 ct4 oc5 kV5 dc5 pm5 cd5 ct5 oc6 kV6 dc6 pm6 cd6 ct6 oc7 kV7 dc7 pm7 cd7 ct7 oc8 kV8 dc8 pm8 cd8 ct8 oc9 kV9 dc9 pm9 cd9 ct9 oc10 kV10 dc10 pm10 cd10 ct10 oc11 kV11 dc11 pm11 cd11 ct11 oc12 kV12 dc12 pm12 cd12 ct12 oc13 kV13 dc13 pm13 cd13 ct13 oc14 kV14 dc14 pm14 cd14 ct14 oc15 kV15 dc15 pm15 cd15 ct15 oc16 kV16 dc16 pm16 cd16 ct16 oc17 kV17 dc17 pm17 cd17 ct17 oc18 kV18 dc18 pm18 cd18 ct18 oc19 kV19 dc19 pm19 cd19 ct19 oc20 kV20 dc20 pm20 cd20 ct20 oc21 kV21 dc21 pm21 cd21 ct21 oc22 kV22 dc22 pm22 cd22 ct22 oc23 kV23 dc23 pm23 cd23 ct23 oc24 kV24 dc24 pm24 cd24 ct24 oc25 kV25 dc25 pm25 cd25 ct25 oc26 kV26 dc26 pm26 cd26 ct26 oc27 kV27 dc27 pm27 cd27 ct27 oc28 kV28 dc28 pm28 cd28 ct28 oc29 kV29 dc29 pm29 cd29 ct29 oc30 kV30 dc30 pm30 cd30 ct30 oc31 kV31 dc31 pm31 cd31 ct31 oc32 kV32 dc32 pm32 cd32 ct32 oc33 kV33 dc33 pm33 cd33 ct33 oc34 kV34 dc34 pm34 ct34 oc35 kV35 dc35 pm35 cd35 ct35  : Value}
    {oZ : Value} {dZ : Option Addr} {vZ : Array Value} {sZ : Array (Option Value)} (lZ : K.lookup cc = some ⟨oZ, dZ, .fields vZ, sZ⟩) (hZ : vZ[11]? = some (.ref Pt)) (hH : PySem.W.codeHdIn K cc Pt = true)
    (a1 : PySem.W.nsIn K mainGlobals "check_count" = some (some (.ref f1))) (l1 : K.lookup f1 = some ⟨oc1, od1, .func (PySem.W.fnOf "check_count" "check_count" (defArgs s_ccount) (defBody s_ccount) (defScope s_ccount) .none kV1 dc1 pm1 an1 cd1 ct1), sl1⟩) (c1 : PySem.W.codeIn K cd1 "check_count" = true) (k1 : PySem.W.keepIn K (.ref f1) = true)
    (a2 : PySem.W.nsIn K mainGlobals "check_question" = some (some (.ref f2))) (l2 : K.lookup f2 = some ⟨oc2, od2, .func (PySem.W.fnOf "check_question" "check_question" (defArgs s_cquest) (defBody s_cquest) (defScope s_cquest) .none kV2 dc2 pm2 an2 cd2 ct2), sl2⟩) (c2 : PySem.W.codeIn K cd2 "check_question" = true) (k2 : PySem.W.keepIn K (.ref f2) = true)
    (a3 : PySem.W.nsIn K mainGlobals "check_sign" = some (some (.ref f3))) (l3 : K.lookup f3 = some ⟨oc3, od3, .func (PySem.W.fnOf "check_sign" "check_sign" (defArgs s_csign) (defBody s_csign) (defScope s_csign) .none kV3 dc3 pm3 an3 cd3 ct3), sl3⟩) (c3 : PySem.W.codeIn K cd3 "check_sign" = true) (k3 : PySem.W.keepIn K (.ref f3) = true)
    (a4 : PySem.W.nsIn K mainGlobals "check_answers" = some (some (.ref f4))) (l4 : K.lookup f4 = some ⟨oc4, od4, .func (PySem.W.fnOf "check_answers" "check_answers" (defArgs s_cans) (defBody s_cans) (defScope s_cans) .none kV4 dc4 pm4 an4 cd4 ct4), sl4⟩) (c4 : PySem.W.codeIn K cd4 "check_answers" = true) (k4 : PySem.W.keepIn K (.ref f4) = true)
    (a5 : PySem.W.nsIn K mainGlobals "check_pattern" = some (some (.ref f5))) (l5 : K.lookup f5 = some ⟨oc5, od5, .func (PySem.W.fnOf "check_pattern" "check_pattern" (defArgs s_cpat) (defBody s_cpat) (defScope s_cpat) .none kV5 dc5 pm5 an5 cd5 ct5), sl5⟩) (c5 : PySem.W.codeIn K cd5 "check_pattern" = true) (k5 : PySem.W.keepIn K (.ref f5) = true)
    (a6 : PySem.W.nsIn K mainGlobals "other" = some (some (.ref f6))) (l6 : K.lookup f6 = some ⟨oc6, od6, .func (PySem.W.fnOf "other" "other" (defArgs s_other) (defBody s_other) (defScope s_other) .none kV6 dc6 pm6 an6 cd6 ct6), sl6⟩) (c6 : PySem.W.codeIn K cd6 "other" = true) (k6 : PySem.W.keepIn K (.ref f6) = true)
    (a7 : PySem.W.nsIn K mainGlobals "is_pattern" = some (some (.ref f7))) (l7 : K.lookup f7 = some ⟨oc7, od7, .func (PySem.W.fnOf "is_pattern" "is_pattern" (defArgs s_ispat) (defBody s_ispat) (defScope s_ispat) .none kV7 dc7 pm7 an7 cd7 ct7), sl7⟩) (c7 : PySem.W.codeIn K cd7 "is_pattern" = true) (k7 : PySem.W.keepIn K (.ref f7) = true)
    (a8 : PySem.W.nsIn K mainGlobals "only_of" = some (some (.ref f8))) (l8 : K.lookup f8 = some ⟨oc8, od8, .func (PySem.W.fnOf "only_of" "only_of" (defArgs s_only) (defBody s_only) (defScope s_only) .none kV8 dc8 pm8 an8 cd8 ct8), sl8⟩) (c8 : PySem.W.codeIn K cd8 "only_of" = true) (k8 : PySem.W.keepIn K (.ref f8) = true)
    (a9 : PySem.W.nsIn K mainGlobals "with_answer" = some (some (.ref f9))) (l9 : K.lookup f9 = some ⟨oc9, od9, .func (PySem.W.fnOf "with_answer" "with_answer" (defArgs s_with) (defBody s_with) (defScope s_with) .none kV9 dc9 pm9 an9 cd9 ct9), sl9⟩) (c9 : PySem.W.codeIn K cd9 "with_answer" = true) (k9 : PySem.W.keepIn K (.ref f9) = true)
    (a10 : PySem.W.nsIn K mainGlobals "answers" = some (some (.ref f10))) (l10 : K.lookup f10 = some ⟨oc10, od10, .func (PySem.W.fnOf "answers" "answers" (defArgs s_ans) (defBody s_ans) (defScope s_ans) .none kV10 dc10 pm10 an10 cd10 ct10), sl10⟩) (c10 : PySem.W.codeIn K cd10 "answers" = true) (k10 : PySem.W.keepIn K (.ref f10) = true)
    (a11 : PySem.W.nsIn K mainGlobals "open_places" = some (some (.ref f11))) (l11 : K.lookup f11 = some ⟨oc11, od11, .func (PySem.W.fnOf "open_places" "open_places" (defArgs s_open) (defBody s_open) (defScope s_open) .none kV11 dc11 pm11 an11 cd11 ct11), sl11⟩) (c11 : PySem.W.codeIn K cd11 "open_places" = true) (k11 : PySem.W.keepIn K (.ref f11) = true)
    (a12 : PySem.W.nsIn K mainGlobals "torn" = some (some (.ref f12))) (l12 : K.lookup f12 = some ⟨oc12, od12, .func (PySem.W.fnOf "torn" "torn" (defArgs s_torn) (defBody s_torn) (defScope s_torn) .none kV12 dc12 pm12 an12 cd12 ct12), sl12⟩) (c12 : PySem.W.codeIn K cd12 "torn" = true) (k12 : PySem.W.keepIn K (.ref f12) = true)
    (a13 : PySem.W.nsIn K mainGlobals "keeping" = some (some (.ref f13))) (l13 : K.lookup f13 = some ⟨oc13, od13, .func (PySem.W.fnOf "keeping" "keeping" (defArgs s_keeping) (defBody s_keeping) (defScope s_keeping) .none kV13 dc13 pm13 an13 cd13 ct13), sl13⟩) (c13 : PySem.W.codeIn K cd13 "keeping" = true) (k13 : PySem.W.keepIn K (.ref f13) = true)
    (a14 : PySem.W.nsIn K mainGlobals "follows" = some (some (.ref f14))) (l14 : K.lookup f14 = some ⟨oc14, od14, .func (PySem.W.fnOf "follows" "follows" (defArgs s_follows) (defBody s_follows) (defScope s_follows) .none kV14 dc14 pm14 an14 cd14 ct14), sl14⟩) (c14 : PySem.W.codeIn K cd14 "follows" = true) (k14 : PySem.W.keepIn K (.ref f14) = true)
    (a15 : PySem.W.nsIn K mainGlobals "check_oaths" = some (some (.ref f15))) (l15 : K.lookup f15 = some ⟨oc15, od15, .func (PySem.W.fnOf "check_oaths" "check_oaths" (defArgs s_coaths) (defBody s_coaths) (defScope s_coaths) .none kV15 dc15 pm15 an15 cd15 ct15), sl15⟩) (c15 : PySem.W.codeIn K cd15 "check_oaths" = true) (k15 : PySem.W.keepIn K (.ref f15) = true)
    (a16 : PySem.W.nsIn K mainGlobals "against" = some (some (.ref f16))) (l16 : K.lookup f16 = some ⟨oc16, od16, .func (PySem.W.fnOf "against" "against" (defArgs s_against) (defBody s_against) (defScope s_against) .none kV16 dc16 pm16 an16 cd16 ct16), sl16⟩) (c16 : PySem.W.codeIn K cd16 "against" = true) (k16 : PySem.W.keepIn K (.ref f16) = true)
    (a17 : PySem.W.nsIn K mainGlobals "other_side" = some (some (.ref f17))) (l17 : K.lookup f17 = some ⟨oc17, od17, .func (PySem.W.fnOf "other_side" "other_side" (defArgs s_oside) (defBody s_oside) (defScope s_oside) .none kV17 dc17 pm17 an17 cd17 ct17), sl17⟩) (c17 : PySem.W.codeIn K cd17 "other_side" = true) (k17 : PySem.W.keepIn K (.ref f17) = true)
    (a18 : PySem.W.nsIn K mainGlobals "links" = some (some (.ref f18))) (l18 : K.lookup f18 = some ⟨oc18, od18, .func (PySem.W.fnOf "links" "links" (defArgs s_links) (defBody s_links) (defScope s_links) .none kV18 dc18 pm18 an18 cd18 ct18), sl18⟩) (c18 : PySem.W.codeIn K cd18 "links" = true) (k18 : PySem.W.keepIn K (.ref f18) = true)
    (a19 : PySem.W.nsIn K mainGlobals "walks_from" = some (some (.ref f19))) (l19 : K.lookup f19 = some ⟨oc19, od19, .func (PySem.W.fnOf "walks_from" "walks_from" (defArgs s_walks) (defBody s_walks) (defScope s_walks) .none kV19 dc19 pm19 an19 cd19 ct19), sl19⟩) (c19 : PySem.W.codeIn K cd19 "walks_from" = true) (k19 : PySem.W.keepIn K (.ref f19) = true)
    (a20 : PySem.W.nsIn K mainGlobals "walk_to" = some (some (.ref f20))) (l20 : K.lookup f20 = some ⟨oc20, od20, .func (PySem.W.fnOf "walk_to" "walk_to" (defArgs s_walkto) (defBody s_walkto) (defScope s_walkto) .none kV20 dc20 pm20 an20 cd20 ct20), sl20⟩) (c20 : PySem.W.codeIn K cd20 "walk_to" = true) (k20 : PySem.W.keepIn K (.ref f20) = true)
    (a21 : PySem.W.nsIn K mainGlobals "torn_walk" = some (some (.ref f21))) (l21 : K.lookup f21 = some ⟨oc21, od21, .func (PySem.W.fnOf "torn_walk" "torn_walk" (defArgs s_tornw) (defBody s_tornw) (defScope s_tornw) .none kV21 dc21 pm21 an21 cd21 ct21), sl21⟩) (c21 : PySem.W.codeIn K cd21 "torn_walk" = true) (k21 : PySem.W.keepIn K (.ref f21) = true)
    (a22 : PySem.W.nsIn K mainGlobals "hold" = some (some (.ref f22))) (l22 : K.lookup f22 = some ⟨oc22, od22, .func (PySem.W.fnOf "hold" "hold" (defArgs s_hold) (defBody s_hold) (defScope s_hold) .none kV22 dc22 pm22 an22 cd22 ct22), sl22⟩) (c22 : PySem.W.codeIn K cd22 "hold" = true) (k22 : PySem.W.keepIn K (.ref f22) = true)
    (a23 : PySem.W.nsIn K mainGlobals "hold_all" = some (some (.ref f23))) (l23 : K.lookup f23 = some ⟨oc23, od23, .func (PySem.W.fnOf "hold_all" "hold_all" (defArgs s_holdall) (defBody s_holdall) (defScope s_holdall) .none kV23 dc23 pm23 an23 cd23 ct23), sl23⟩) (c23 : PySem.W.codeIn K cd23 "hold_all" = true) (k23 : PySem.W.keepIn K (.ref f23) = true)
    (a24 : PySem.W.nsIn K mainGlobals "_law_cell" = some (some (.ref f24))) (l24 : K.lookup f24 = some ⟨oc24, od24, .func (PySem.W.fnOf "_law_cell" "_law_cell" (defArgs s_cell) (defBody s_cell) (defScope s_cell) .none kV24 dc24 pm24 an24 cd24 ct24), sl24⟩) (c24 : PySem.W.codeIn K cd24 "_law_cell" = true) (k24 : PySem.W.keepIn K (.ref f24) = true)
    (a25 : PySem.W.nsIn K mainGlobals "_law_draws" = some (some (.ref f25))) (l25 : K.lookup f25 = some ⟨oc25, od25, .func (PySem.W.fnOf "_law_draws" "_law_draws" (defArgs s_draws) (defBody s_draws) (defScope s_draws) .none kV25 dc25 pm25 an25 cd25 ct25), sl25⟩) (c25 : PySem.W.codeIn K cd25 "_law_draws" = true) (k25 : PySem.W.keepIn K (.ref f25) = true)
    (a26 : PySem.W.nsIn K mainGlobals "_law_same" = some (some (.ref f26))) (l26 : K.lookup f26 = some ⟨oc26, od26, .func (PySem.W.fnOf "_law_same" "_law_same" (defArgs s_same) (defBody s_same) (defScope s_same) .none kV26 dc26 pm26 an26 cd26 ct26), sl26⟩) (c26 : PySem.W.codeIn K cd26 "_law_same" = true) (k26 : PySem.W.keepIn K (.ref f26) = true)
    (a27 : PySem.W.nsIn K mainGlobals "_law_count" = some (some (.ref f27))) (l27 : K.lookup f27 = some ⟨oc27, od27, .func (PySem.W.fnOf "_law_count" "_law_count" (defArgs s_count) (defBody s_count) (defScope s_count) .none kV27 dc27 pm27 an27 cd27 ct27), sl27⟩) (c27 : PySem.W.codeIn K cd27 "_law_count" = true) (k27 : PySem.W.keepIn K (.ref f27) = true)
    (a28 : PySem.W.nsIn K mainGlobals "_law_bits" = some (some (.ref f28))) (l28 : K.lookup f28 = some ⟨oc28, od28, .func (PySem.W.fnOf "_law_bits" "_law_bits" (defArgs s_bits) (defBody s_bits) (defScope s_bits) .none kV28 dc28 pm28 an28 cd28 ct28), sl28⟩) (c28 : PySem.W.codeIn K cd28 "_law_bits" = true) (k28 : PySem.W.keepIn K (.ref f28) = true)
    (a29 : PySem.W.nsIn K mainGlobals "_law_vows" = some (some (.ref f29))) (l29 : K.lookup f29 = some ⟨oc29, od29, .func (PySem.W.fnOf "_law_vows" "_law_vows" (defArgs s_vows) (defBody s_vows) (defScope s_vows) .none kV29 dc29 pm29 an29 cd29 ct29), sl29⟩) (c29 : PySem.W.codeIn K cd29 "_law_vows" = true) (k29 : PySem.W.keepIn K (.ref f29) = true)
    (a30 : PySem.W.nsIn K mainGlobals "_law_word" = some (some (.ref f30))) (l30 : K.lookup f30 = some ⟨oc30, od30, .func (PySem.W.fnOf "_law_word" "_law_word" (defArgs s_word) (defBody s_word) (defScope s_word) .none kV30 dc30 pm30 an30 cd30 ct30), sl30⟩) (c30 : PySem.W.codeIn K cd30 "_law_word" = true) (k30 : PySem.W.keepIn K (.ref f30) = true)
    (a31 : PySem.W.nsIn K mainGlobals "_law_spoilt" = some (some (.ref f31))) (l31 : K.lookup f31 = some ⟨oc31, od31, .func (PySem.W.fnOf "_law_spoilt" "_law_spoilt" (defArgs s_spoilt) (defBody s_spoilt) (defScope s_spoilt) .none kV31 dc31 pm31 an31 cd31 ct31), sl31⟩) (c31 : PySem.W.codeIn K cd31 "_law_spoilt" = true) (k31 : PySem.W.keepIn K (.ref f31) = true)
    (a32 : PySem.W.nsIn K mainGlobals "_law_fault" = some (some (.ref f32))) (l32 : K.lookup f32 = some ⟨oc32, od32, .func (PySem.W.fnOf "_law_fault" "_law_fault" (defArgs s_fault) (defBody s_fault) (defScope s_fault) .none kV32 dc32 pm32 an32 cd32 ct32), sl32⟩) (c32 : PySem.W.codeIn K cd32 "_law_fault" = true) (k32 : PySem.W.keepIn K (.ref f32) = true)
    (a33 : PySem.W.nsIn K mainGlobals "_law_first" = some (some (.ref f33))) (l33 : K.lookup f33 = some ⟨oc33, od33, .func (PySem.W.fnOf "_law_first" "_law_first" (defArgs s_first) (defBody s_first) (defScope s_first) .none kV33 dc33 pm33 an33 cd33 ct33), sl33⟩) (c33 : PySem.W.codeIn K cd33 "_law_first" = true) (k33 : PySem.W.keepIn K (.ref f33) = true)
    (a34 : PySem.W.nsIn K mainGlobals "_law_asked" = some (some (.ref f34))) (l34 : K.lookup f34 = some ⟨oc34, od34, .func (PySem.W.fnOf "_law_asked" "_law_asked" (defArgs s_asked) (defBody s_asked) (defScope s_asked) .none kV34 dc34 pm34 an34 (.ref cc) ct34), sl34⟩) (c34 : PySem.W.codeIn K (.ref cc) "_law_asked" = true) (k34 : PySem.W.keepIn K (.ref f34) = true)
    (a35 : PySem.W.nsIn K mainGlobals "law" = some (some (.ref f35))) (l35 : K.lookup f35 = some ⟨oc35, od35, .func (PySem.W.fnOf "law" "law" (defArgs s_law) (defBody s_law) (defScope s_law) .none kV35 dc35 pm35 an35 cd35 ct35), sl35⟩) (c35 : PySem.W.codeIn K cd35 "law" = true) (k35 : PySem.W.keepIn K (.ref f35) = true)
    {XW iW NW : Addr} {nmW qnW : Str} {bsW bmW sbW : List Value} {snW : List Str} {abW : Bool} {coW : Option Bool} {ddW : Option Addr} {x0W x1W x2W x3W x5W : Option Value} {oiW kiW diW piW ciW tiW : Value} {ojW aiW : Option Addr} {siW : Array (Option Value)}
    (mW : PySem.W.nsIn K mainGlobals "WapentakeError" = some (some (.ref XW))) (oW : K.lookup XW = some (excClassObj nmW qnW XW NW bsW bmW true snW sbW abW coW ddW x0W x1W x2W x3W x5W "ValueError.__new__"))
    (vW : XBases bmW) (saW : PySem.W.findIn K (.ref XW) "__setattr__" = some (some (.builtin "object.__setattr__"))) (gaW : PySem.W.findIn K (.ref XW) "__getattribute__" = some (some (.builtin "BaseException.__getattribute__"))) (gnW : PySem.W.findIn K (.ref XW) "__getattr__" = some none) (nwW : PySem.W.findIn K (.ref XW) "word" = some none)
    (inW : PySem.W.findIn K (.ref XW) "__init__" = some (some (.ref iW))) (ifW : PySem.W.isFn K (.ref iW) = true) (kpW : PySem.W.keepIn K (.ref XW) = true) (liW : K.lookup iW = some ⟨oiW, ojW, .func (PySem.W.fnOf "__init__" "WapentakeError.__init__" (defArgs s_winit) (defBody s_winit) (defScope s_winit) .none kiW diW piW aiW ciW tiW), siW⟩) (cdW : PySem.W.codeIn K ciW "WapentakeError.__init__" = true) (keW : PySem.W.keepIn K (.ref iW) = true)
    {XC iC NC : Addr} {nmC qnC : Str} {bsC bmC sbC : List Value} {snC : List Str} {abC : Bool} {coC : Option Bool} {ddC : Option Addr} {x0C x1C x2C x3C x5C : Option Value} {oiC kiC diC piC ciC tiC : Value} {ojC aiC : Option Addr} {siC : Array (Option Value)}
    (mC : PySem.W.nsIn K mainGlobals "BadPattern" = some (some (.ref XC))) (oC : K.lookup XC = some (excClassObj nmC qnC XC NC bsC bmC true snC sbC abC coC ddC x0C x1C x2C x3C x5C "ValueError.__new__"))
    (vC : XBases bmC) (saC : PySem.W.findIn K (.ref XC) "__setattr__" = some (some (.builtin "object.__setattr__"))) (gaC : PySem.W.findIn K (.ref XC) "__getattribute__" = some (some (.builtin "BaseException.__getattribute__"))) (gnC : PySem.W.findIn K (.ref XC) "__getattr__" = some none) (nwC : PySem.W.findIn K (.ref XC) "word" = some none)
    (inC : PySem.W.findIn K (.ref XC) "__init__" = some (some (.ref iC))) (ifC : PySem.W.isFn K (.ref iC) = true) (kpC : PySem.W.keepIn K (.ref XC) = true) (liC : K.lookup iC = some ⟨oiC, ojC, .func (PySem.W.fnOf "__init__" "BadPattern.__init__" (defArgs s_cinit) (defBody s_cinit) (defScope s_cinit) .none kiC diC piC aiC ciC tiC), siC⟩) (cdC : PySem.W.codeIn K ciC "BadPattern.__init__" = true) (keC : PySem.W.keepIn K (.ref iC) = true)
    {XS iS NS : Addr} {nmS qnS : Str} {bsS bmS sbS : List Value} {snS : List Str} {abS : Bool} {coS : Option Bool} {ddS : Option Addr} {x0S x1S x2S x3S x5S : Option Value} {oiS kiS diS piS ciS tiS : Value} {ojS aiS : Option Addr} {siS : Array (Option Value)}
    (mS : PySem.W.nsIn K mainGlobals "Torn" = some (some (.ref XS))) (oS : K.lookup XS = some (excClassObj nmS qnS XS NS bsS bmS true snS sbS abS coS ddS x0S x1S x2S x3S x5S "ValueError.__new__"))
    (vS : XBases bmS) (saS : PySem.W.findIn K (.ref XS) "__setattr__" = some (some (.builtin "object.__setattr__"))) (gaS : PySem.W.findIn K (.ref XS) "__getattribute__" = some (some (.builtin "BaseException.__getattribute__"))) (gnS : PySem.W.findIn K (.ref XS) "__getattr__" = some none) (nwS : PySem.W.findIn K (.ref XS) "word" = some none)
    (inS : PySem.W.findIn K (.ref XS) "__init__" = some (some (.ref iS))) (ifS : PySem.W.isFn K (.ref iS) = true) (kpS : PySem.W.keepIn K (.ref XS) = true) (liS : K.lookup iS = some ⟨oiS, ojS, .func (PySem.W.fnOf "__init__" "Torn.__init__" (defArgs s_sinit) (defBody s_sinit) (defScope s_sinit) .none kiS diS piS aiS ciS tiS), siS⟩) (cdS : PySem.W.codeIn K ciS "Torn.__init__" = true) (keS : PySem.W.keepIn K (.ref iS) = true)
    {XB iB NB : Addr} {nmB qnB : Str} {bsB bmB sbB : List Value} {snB : List Str} {abB : Bool} {coB : Option Bool} {ddB : Option Addr} {x0B x1B x2B x3B x5B : Option Value} {oiB kiB diB piB ciB tiB : Value} {ojB aiB : Option Addr} {siB : Array (Option Value)}
    (mB : PySem.W.nsIn K mainGlobals "BadCount" = some (some (.ref XB))) (oB : K.lookup XB = some (excClassObj nmB qnB XB NB bsB bmB true snB sbB abB coB ddB x0B x1B x2B x3B x5B "ValueError.__new__"))
    (vB : XBases bmB) (saB : PySem.W.findIn K (.ref XB) "__setattr__" = some (some (.builtin "object.__setattr__"))) (gaB : PySem.W.findIn K (.ref XB) "__getattribute__" = some (some (.builtin "BaseException.__getattribute__"))) (gnB : PySem.W.findIn K (.ref XB) "__getattr__" = some none) (nwB : PySem.W.findIn K (.ref XB) "word" = some none)
    (inB : PySem.W.findIn K (.ref XB) "__init__" = some (some (.ref iB))) (ifB : PySem.W.isFn K (.ref iB) = true) (kpB : PySem.W.keepIn K (.ref XB) = true) (liB : K.lookup iB = some ⟨oiB, ojB, .func (PySem.W.fnOf "__init__" "BadCount.__init__" (defArgs s_binit) (defBody s_binit) (defScope s_binit) .none kiB diB piB aiB ciB tiB), siB⟩) (cdB : PySem.W.codeIn K ciB "BadCount.__init__" = true) (keB : PySem.W.keepIn K (.ref iB) = true)
    {XQ iQ NQ : Addr} {nmQ qnQ : Str} {bsQ bmQ sbQ : List Value} {snQ : List Str} {abQ : Bool} {coQ : Option Bool} {ddQ : Option Addr} {x0Q x1Q x2Q x3Q x5Q : Option Value} {oiQ kiQ diQ piQ ciQ tiQ : Value} {ojQ aiQ : Option Addr} {siQ : Array (Option Value)}
    (mQ : PySem.W.nsIn K mainGlobals "NoQuestion" = some (some (.ref XQ))) (oQ : K.lookup XQ = some (excClassObj nmQ qnQ XQ NQ bsQ bmQ true snQ sbQ abQ coQ ddQ x0Q x1Q x2Q x3Q x5Q "ValueError.__new__"))
    (vQ : XBases bmQ) (saQ : PySem.W.findIn K (.ref XQ) "__setattr__" = some (some (.builtin "object.__setattr__"))) (gaQ : PySem.W.findIn K (.ref XQ) "__getattribute__" = some (some (.builtin "BaseException.__getattribute__"))) (gnQ : PySem.W.findIn K (.ref XQ) "__getattr__" = some none) (nwQ : PySem.W.findIn K (.ref XQ) "word" = some none)
    (inQ : PySem.W.findIn K (.ref XQ) "__init__" = some (some (.ref iQ))) (ifQ : PySem.W.isFn K (.ref iQ) = true) (kpQ : PySem.W.keepIn K (.ref XQ) = true) (liQ : K.lookup iQ = some ⟨oiQ, ojQ, .func (PySem.W.fnOf "__init__" "NoQuestion.__init__" (defArgs s_qinit) (defBody s_qinit) (defScope s_qinit) .none kiQ diQ piQ aiQ ciQ tiQ), siQ⟩) (cdQ : PySem.W.codeIn K ciQ "NoQuestion.__init__" = true) (keQ : PySem.W.keepIn K (.ref iQ) = true)
    {XG iG NG : Addr} {nmG qnG : Str} {bsG bmG sbG : List Value} {snG : List Str} {abG : Bool} {coG : Option Bool} {ddG : Option Addr} {x0G x1G x2G x3G x5G : Option Value} {oiG kiG diG piG ciG tiG : Value} {ojG aiG : Option Addr} {siG : Array (Option Value)}
    (mG : PySem.W.nsIn K mainGlobals "BadSign" = some (some (.ref XG))) (oG : K.lookup XG = some (excClassObj nmG qnG XG NG bsG bmG true snG sbG abG coG ddG x0G x1G x2G x3G x5G "ValueError.__new__"))
    (vG : XBases bmG) (saG : PySem.W.findIn K (.ref XG) "__setattr__" = some (some (.builtin "object.__setattr__"))) (gaG : PySem.W.findIn K (.ref XG) "__getattribute__" = some (some (.builtin "BaseException.__getattribute__"))) (gnG : PySem.W.findIn K (.ref XG) "__getattr__" = some none) (nwG : PySem.W.findIn K (.ref XG) "word" = some none)
    (inG : PySem.W.findIn K (.ref XG) "__init__" = some (some (.ref iG))) (ifG : PySem.W.isFn K (.ref iG) = true) (kpG : PySem.W.keepIn K (.ref XG) = true) (liG : K.lookup iG = some ⟨oiG, ojG, .func (PySem.W.fnOf "__init__" "BadSign.__init__" (defArgs s_ginit) (defBody s_ginit) (defScope s_ginit) .none kiG diG piG aiG ciG tiG), siG⟩) (cdG : PySem.W.codeIn K ciG "BadSign.__init__" = true) (keG : PySem.W.keepIn K (.ref iG) = true)
    (uC : (Value.ref XC :: bmC).contains (.ref XW) = true) (uS : (Value.ref XS :: bmS).contains (.ref XW) = true)
    (wg : PySem.W.specialIn K (.ref XW) "__getattribute__" = some (some (.builtin "type.__getattribute__"))) (wr : PySem.W.readsIn K XW (.type "type") = true) (wf : PySem.W.findCls K (.ref XW) (.type "type") "__init__" = some (.val (.ref iW)))
    (gv : PySem.W.nsIn K mainGlobals "ValueError" = some none)
    (uB : (Value.ref XB :: bmB).contains (.ref XW) = true)
    (uQ : (Value.ref XQ :: bmQ).contains (.ref XW) = true)
    (uG : (Value.ref XG :: bmG).contains (.ref XW) = true)
    {tq ts : Tok} (gq : PySem.W.nsIn K mainGlobals "MOST_QUESTIONS" = some (some (.int 12 tq))) (gs : PySem.W.nsIn K mainGlobals "SIGNS" = some (some (.str "ny" ts)))
    (z0 : PySem.W.nsIn K mainGlobals "len" = some none) (z1 : PySem.W.nsIn K mainGlobals "range" = some none) (z2 : PySem.W.nsIn K mainGlobals "all" = some none) (z3 : PySem.W.nsIn K mainGlobals "zip" = some none) (z4 : PySem.W.nsIn K mainGlobals "abs" = some none) (z5 : PySem.W.nsIn K mainGlobals "int" = some none) (z6 : PySem.W.nsIn K mainGlobals "str" = some none) (z7 : PySem.W.nsIn K mainGlobals "bool" = some none) (z8 : PySem.W.nsIn K mainGlobals "list" = some none) (z9 : PySem.W.nsIn K mainGlobals "tuple" = some none) (z10 : PySem.W.nsIn K mainGlobals "isinstance" = some none) (z11 : PySem.W.nsIn K mainGlobals "enumerate" = some none) (z12 : PySem.W.nsIn K mainGlobals "sum" = some none) (z13 : PySem.W.nsIn K mainGlobals "sorted" = some none) (z14 : PySem.W.nsIn K mainGlobals "dict" = some none) :
    ∃ fd : FuncData, (∀ (s : Shared) (v : Value), BindsTo s fd ⟨[v], []⟩ [("_law_script", v)]) ∧ PySem.W.codeHdIn K cc Pt = true ∧ ∀ base : Heap, K.In base → base.Ns mainGlobals mg → BMain mg base → FnOk l.prog w K mg base (CXE l.prog w) 12 fa fd ["_law_script"] (spLaw K Pt) := by
  have e := hfa.symm.trans (PySem.W.mg_of X G a35)
  cases e
  have B : Bt mg := ⟨PySem.W.mg_none_of X G z0, PySem.W.mg_none_of X G z1, PySem.W.mg_none_of X G z2, PySem.W.mg_none_of X G z3, PySem.W.mg_none_of X G z4, PySem.W.mg_none_of X G z5, PySem.W.mg_none_of X G z6, PySem.W.mg_none_of X G z7, PySem.W.mg_none_of X G z8, PySem.W.mg_none_of X G z9, PySem.W.mg_none_of X G z10⟩
  have M : Gm mg := ⟨PySem.W.mg_none_of X G z11, PySem.W.mg_none_of X G z12, PySem.W.mg_none_of X G z13, PySem.W.mg_none_of X G z14, ⟨_, PySem.W.mg_of X G gq⟩, ⟨_, PySem.W.mg_of X G gs⟩⟩
  have D1 := df_mk (st := s_ccount) (ps := ["questions"]) X G a1 l1 c1 k1 fun _ _ _ _ _ _ us hl => match us, hl with | [_], _ => rfl
  have D2 := df_mk (st := s_cquest) (ps := ["question", "questions"]) X G a2 l2 c2 k2 fun _ _ _ _ _ _ us hl => match us, hl with | [_, _], _ => rfl
  have D3 := df_mk (st := s_csign) (ps := ["sign"]) X G a3 l3 c3 k3 fun _ _ _ _ _ _ us hl => match us, hl with | [_], _ => rfl
  have D4 := df_mk (st := s_cans) (ps := ["q", "a", "r", "b", "questions"]) X G a4 l4 c4 k4 fun _ _ _ _ _ _ us hl => match us, hl with | [_, _, _, _, _], _ => rfl
  have D5 := df_mk (st := s_cpat) (ps := ["pattern", "questions"]) X G a5 l5 c5 k5 fun _ _ _ _ _ _ us hl => match us, hl with | [_, _], _ => rfl
  have D6 := df_mk (st := s_other) (ps := ["sign"]) X G a6 l6 c6 k6 fun _ _ _ _ _ _ us hl => match us, hl with | [_], _ => rfl
  have D7 := df_mk (st := s_ispat) (ps := ["pattern", "questions"]) X G a7 l7 c7 k7 fun _ _ _ _ _ _ us hl => match us, hl with | [_, _], _ => rfl
  have D8 := df_mk (st := s_only) (ps := ["text", "signs"]) X G a8 l8 c8 k8 fun _ _ _ _ _ _ us hl => match us, hl with | [_, _], _ => rfl
  have D9 := df_mk (st := s_with) (ps := ["pattern", "question", "sign"]) X G a9 l9 c9 k9 fun _ _ _ _ _ _ us hl => match us, hl with | [_, _, _], _ => rfl
  have D10 := df_mk (st := s_ans) (ps := ["pattern"]) X G a10 l10 c10 k10 fun _ _ _ _ _ _ us hl => match us, hl with | [_], _ => rfl
  have D11 := df_mk (st := s_open) (ps := ["pattern"]) X G a11 l11 c11 k11 fun _ _ _ _ _ _ us hl => match us, hl with | [_], _ => rfl
  have D12 := df_mk (st := s_torn) (ps := ["questions", "oaths"]) X G a12 l12 c12 k12 fun _ _ _ _ _ _ us hl => match us, hl with | [_, _], _ => rfl
  have D13 := df_mk (st := s_keeping) (ps := ["questions", "oaths", "pattern"]) X G a13 l13 c13 k13 fun _ _ _ _ _ _ us hl => match us, hl with | [_, _, _], _ => rfl
  have D14 := df_mk (st := s_follows) (ps := ["questions", "oaths", "q", "a", "r", "b"]) X G a14 l14 c14 k14 fun _ _ _ _ _ _ us hl => match us, hl with | [_, _, _, _, _, _], _ => rfl
  have D15 := df_mk (st := s_coaths) (ps := ["questions", "oaths"]) X G a15 l15 c15 k15 fun _ _ _ _ _ _ us hl => match us, hl with | [_, _], _ => rfl
  have D16 := df_mk (st := s_against) (ps := ["answer"]) X G a16 l16 c16 k16 fun _ _ _ _ _ _ us hl => match us, hl with | [_], _ => rfl
  have D17 := df_mk (st := s_oside) (ps := ["oath"]) X G a17 l17 c17 k17 fun _ _ _ _ _ _ us hl => match us, hl with | [_], _ => rfl
  have D18 := df_mk (st := s_links) (ps := ["oaths"]) X G a18 l18 c18 k18 fun _ _ _ _ _ _ us hl => match us, hl with | [_], _ => rfl
  have D19 := df_mk (st := s_walks) (ps := ["led", "start"]) X G a19 l19 c19 k19 fun _ _ _ _ _ _ us hl => match us, hl with | [_, _], _ => rfl
  have D20 := df_mk (st := s_walkto) (ps := ["led", "start", "goal"]) X G a20 l20 c20 k20 fun _ _ _ _ _ _ us hl => match us, hl with | [_, _, _], _ => rfl
  have D21 := df_mk (st := s_tornw) (ps := ["questions", "led"]) X G a21 l21 c21 k21 fun _ _ _ _ _ _ us hl => match us, hl with | [_, _], _ => rfl
  have D22 := df_mk (st := s_hold) (ps := ["led", "pattern", "answer"]) X G a22 l22 c22 k22 fun _ _ _ _ _ _ us hl => match us, hl with | [_, _, _], _ => rfl
  have D23 := df_mk (st := s_holdall) (ps := ["led", "questions", "given"]) X G a23 l23 c23 k23 fun _ _ _ _ _ _ us hl => match us, hl with | [_, _, _], _ => rfl
  have D24 := df_mk (st := s_cell) (ps := ["_law_script", "_law_k"]) X G a24 l24 c24 k24 fun _ _ _ _ _ _ us hl => match us, hl with | [_, _], _ => rfl
  have D25 := df_mk (st := s_draws) (ps := ["_law_cell_here", "_law_parts"]) X G a25 l25 c25 k25 fun _ _ _ _ _ _ us hl => match us, hl with | [_, _], _ => rfl
  have D26 := df_mk (st := s_same) (ps := ["_law_found", "_law_due"]) X G a26 l26 c26 k26 fun _ _ _ _ _ _ us hl => match us, hl with | [_, _], _ => rfl
  have D27 := df_mk (st := s_count) (ps := ["_law_cell_here"]) X G a27 l27 c27 k27 fun _ _ _ _ _ _ us hl => match us, hl with | [_], _ => rfl
  have D28 := df_mk (st := s_bits) (ps := ["_law_number", "_law_n"]) X G a28 l28 c28 k28 fun _ _ _ _ _ _ us hl => match us, hl with | [_, _], _ => rfl
  have D29 := df_mk (st := s_vows) (ps := ["_law_cells", "_law_n", "_law_cell_here"]) X G a29 l29 c29 k29 fun _ _ _ _ _ _ us hl => match us, hl with | [_, _, _], _ => rfl
  have D30 := df_mk (st := s_word) (ps := ["_law_asked_here"]) X G a30 l30 c30 k30 fun _ _ _ _ _ _ us hl => match us, hl with | [_], _ => rfl
  have D31 := df_mk (st := s_spoilt) (ps := ["_law_vow", "_law_number", "_law_n"]) X G a31 l31 c31 k31 fun _ _ _ _ _ _ us hl => match us, hl with | [_, _, _], _ => rfl
  have D32 := df_mk (st := s_fault) (ps := ["_law_vow", "_law_n"]) X G a32 l32 c32 k32 fun _ _ _ _ _ _ us hl => match us, hl with | [_, _], _ => rfl
  have D33 := df_mk (st := s_first) (ps := ["_law_count_here", "_law_n", "_law_vows_here"]) X G a33 l33 c33 k33 fun _ _ _ _ _ _ us hl => match us, hl with | [_, _, _], _ => rfl
  have D34 := df_mk (st := s_asked) (ps := ["_law_count_here", "_law_n", "_law_vows_here", "_law_pattern", "_law_asked_here"]) X G a34 l34 c34 k34 fun _ _ _ _ _ _ us hl => match us, hl with | [_, _, _, _, _], _ => rfl
  have D35 := df_mk (st := s_law) (ps := ["_law_script"]) X G a35 l35 c35 k35 fun _ _ _ _ _ _ us hl => match us, hl with | [_], _ => rfl
  have FW := fun_mk (st := s_winit) liW cdW keW
  have bW := FW.binds (ps := ["self", "word"]) fun _ _ _ _ _ _ us hl => match us, hl with | [_, _], _ => rfl
  have kW : XKl K XW := ⟨⟨⟨_, _, _, _, _, _, _, _, _, _, _, _, _, _, _, oW, vW⟩⟩, saW, gaW, gnW, nwW⟩
  have FC := fun_mk (st := s_cinit) liC cdC keC
  have bC := FC.binds (ps := ["self"]) fun _ _ _ _ _ _ us hl => match us, hl with | [_], _ => rfl
  have kC : XKl K XC := ⟨⟨⟨_, _, _, _, _, _, _, _, _, _, _, _, _, _, _, oC, vC⟩⟩, saC, gaC, gnC, nwC⟩
  have FS := fun_mk (st := s_sinit) liS cdS keS
  have bS := FS.binds (ps := ["self"]) fun _ _ _ _ _ _ us hl => match us, hl with | [_], _ => rfl
  have kS : XKl K XS := ⟨⟨⟨_, _, _, _, _, _, _, _, _, _, _, _, _, _, _, oS, vS⟩⟩, saS, gaS, gnS, nwS⟩
  have FB := fun_mk (st := s_binit) liB cdB keB
  have bB := FB.binds (ps := ["self"]) fun _ _ _ _ _ _ us hl => match us, hl with | [_], _ => rfl
  have kB : XKl K XB := ⟨⟨⟨_, _, _, _, _, _, _, _, _, _, _, _, _, _, _, oB, vB⟩⟩, saB, gaB, gnB, nwB⟩
  have FQ := fun_mk (st := s_qinit) liQ cdQ keQ
  have bQ := FQ.binds (ps := ["self"]) fun _ _ _ _ _ _ us hl => match us, hl with | [_], _ => rfl
  have kQ : XKl K XQ := ⟨⟨⟨_, _, _, _, _, _, _, _, _, _, _, _, _, _, _, oQ, vQ⟩⟩, saQ, gaQ, gnQ, nwQ⟩
  have FG := fun_mk (st := s_ginit) liG cdG keG
  have bG := FG.binds (ps := ["self"]) fun _ _ _ _ _ _ us hl => match us, hl with | [_], _ => rfl
  have kG : XKl K XG := ⟨⟨⟨_, _, _, _, _, _, _, _, _, _, _, _, _, _, _, oG, vG⟩⟩, saG, gaG, gnG, nwG⟩
  have XX : Xs K mg XW XC XS iW iC iS _ _ _ := ⟨PySem.W.mg_of X G mW, PySem.W.mg_of X G mC, PySem.W.mg_of X G mS, PySem.W.mg_none_of X G gv, kW, kC, kS, ⟨⟨_, _, _, _, _, _, _, _, _, _, _, _, _, _, _, oC, uC⟩⟩, ⟨⟨_, _, _, _, _, _, _, _, _, _, _, _, _, _, _, oS, uS⟩⟩, ⟨wg, wr, wf, keW⟩, ⟨inC, ifC, kpC⟩, ⟨inS, ifS, kpS⟩, FW, FC, FS, bW, bC, bS⟩
  have Z_BadCount : Xc K mg XW XB iB _ "BadCount" "BadCount.__init__" s_binit := ⟨PySem.W.mg_of X G mB, kB, ⟨⟨_, _, _, _, _, _, _, _, _, _, _, _, _, _, _, oB, uB⟩⟩, ⟨inB, ifB, kpB⟩, FB, bB⟩
  have Z_NoQuestion : Xc K mg XW XQ iQ _ "NoQuestion" "NoQuestion.__init__" s_qinit := ⟨PySem.W.mg_of X G mQ, kQ, ⟨⟨_, _, _, _, _, _, _, _, _, _, _, _, _, _, _, oQ, uQ⟩⟩, ⟨inQ, ifQ, kpQ⟩, FQ, bQ⟩
  have Z_BadSign : Xc K mg XW XG iG _ "BadSign" "BadSign.__init__" s_ginit := ⟨PySem.W.mg_of X G mG, kG, ⟨⟨_, _, _, _, _, _, _, _, _, _, _, _, _, _, _, oG, uG⟩⟩, ⟨inG, ifG, kpG⟩, FG, bG⟩
  refine ⟨_, fun s v => BindsTo.of_eq (fd := PySem.W.fnOf "law" "law" (defArgs s_law) (defBody s_law) (defScope s_law) .none kV35 dc35 pm35 an35 cd35 ct35) rfl, hH, fun base KB _ BM => ?_⟩
  exact ok_law D35 D24 D25 D27 D29 (ok_vows D29 D25 D28 B) D31 D34 (ok_asked l34 c34 D33 (ok_first D33 D32) D32 D30 D26 D12 (fun _ => ok_tornE D12 D15 (ok_coE D15 D1 (ok_ccE D1 XX Z_BadCount M) D4 (ok_caE D4 D2 (ok_cqE D2 XX Z_NoQuestion) D3 (ok_csE D3 XX Z_BadSign))) D18 (ok_links D18 D17 (ok_oside D17 D6 D3)) D21 (fun _ => ok_tornw D21 D20 (ok_walkto D20 D19) B)) D13 (fun _ => ok_keepE D13 D15 (ok_coE D15 D1 (ok_ccE D1 XX Z_BadCount M) D4 (ok_caE D4 D2 (ok_cqE D2 XX Z_NoQuestion) D3 (ok_csE D3 XX Z_BadSign))) D5 (ok_cpat D5 D7 (ok_ispat D7 D1 D8 B M) XX) D18 (ok_links D18 D17 (ok_oside D17 D6 D3)) D23 (fun _ => ok_holdall D23 D22 (ok_hold D22 D19 D6 D3 D9)) D10 D11 D22 (fun _ => ok_hold D22 D19 D6 D3 D9) M) D14 (fun _ => ok_follE D14 D15 (ok_coE D15 D1 (ok_ccE D1 XX Z_BadCount M) D4 (ok_caE D4 D2 (ok_cqE D2 XX Z_NoQuestion) D3 (ok_csE D3 XX Z_BadSign))) D4 (ok_caE D4 D2 (ok_cqE D2 XX Z_NoQuestion) D3 (ok_csE D3 XX Z_BadSign)) D3 D18 (ok_links D18 D17 (ok_oside D17 D6 D3)) D21 (fun _ => ok_tornw D21 D20 (ok_walkto D20 D19) B) D20 (fun _ => ok_walkto D20 D19) D16 (ok_against D16 D6 D3) D9 D6 D13 (ok_keepE D13 D15 (ok_coE D15 D1 (ok_ccE D1 XX Z_BadCount M) D4 (ok_caE D4 D2 (ok_cqE D2 XX Z_NoQuestion) D3 (ok_csE D3 XX Z_BadSign))) D5 (ok_cpat D5 D7 (ok_ispat D7 D1 D8 B M) XX) D18 (ok_links D18 D17 (ok_oside D17 D6 D3)) D23 (fun _ => ok_holdall D23 D22 (ok_hold D22 D19 D6 D3 D9)) D10 D11 D22 (fun _ => ok_hold D22 D19 D6 D3 D9) M) XX) XX Z_BadCount Z_NoQuestion Z_BadSign B (PySem.W.codeHd_of_K KB hH) BM) B
theorem walk {l : PySem.W.OpenLaw} {q : Program} {loose : List Str} {XP : (Str → Option Value) → Heap → Prop} {YP : World → Heap → Prop} {d : DefRec} {K : Params → PySem.W.Frag} {cc Pt : Addr} (hn : l.most = some 63) (hdf : d.params.defaults = [])
    (hY : ∀ (w : World) (h : Heap), YP w h → (K w.params).In h) (hT : ∀ (w : World) (h : Heap), YP w h → h.get? Pt = some (PySem.W.tabObj #[])) (hC : ∀ w : World, PySem.W.codeHdIn (K w.params) cc Pt = true) (hK : ∀ w : World, (K w.params).lookup Pt = none)
    (F : ∀ (w : World) (mg : Str → Option Value) (fa : Addr) (h : Heap), (K w.params).In h → h.Ns mainGlobals mg → mg d.name = some (.ref fa) →
      ∃ fd : FuncData, (∀ (s : Shared) (u : Value), BindsTo s fd ⟨[u], []⟩ [("_law_script", u)]) ∧ PySem.W.codeHdIn (K w.params) cc Pt = true ∧ ∀ base : Heap, (K w.params).In base → base.Ns mainGlobals mg → BMain mg base → FnOk l.prog w (K w.params) mg base (CXE l.prog w) 12 fa fd ["_law_script"] (spLaw (K w.params) Pt)) :
    PySem.W.WalkO q loose XP YP l.row.toRowW d [] (fun f vs => PySem.call f vs) :=
  L2.walk_ofT (n := 63) (k := 12) (x := "_law_script") (tabs := [(cc, Pt)]) (CX := fun w => CXE l.prog w) (sp := fun w => spLaw (K w.params) Pt) hn (by decide) hdf ⟨rfl, by decide, by decide⟩ hY
    (fun w h Y q hq => by obtain rfl := List.mem_singleton.mp hq; exact hT w h Y) (fun w h KX q hq => by obtain rfl := List.mem_singleton.mp hq; exact PySem.W.codeHd_of_K KX (hC w)) (fun w q hq => by obtain rfl := List.mem_singleton.mp hq; exact hK w)
    (fun w mg fa h h1 h2 h3 => let ⟨fd, e1, _, e2⟩ := F w mg fa h h1 h2 h3; ⟨fd, e1, e2⟩) (fun _ _ a ns hl hS hTs => ⟨a, ns, rfl, hS, hl, hTs (cc, Pt) (List.mem_singleton.mpr rfl), fun _ => rfl⟩) fun _ _ _ _ _ z => by
    obtain ⟨_, _, _, _, _, _, _, _, _, _, _, _, _, _, _, q⟩ := z
    exact q.elim
end K28
set_option Elab.async false
set_option linter.all false
open PySem PySem.W PyProof.Rows
def PySem.W.Fast.tw13767413298846922145 : Unit := ()
def PySem.W.Fast.tw8854417152957837322 : Unit := ()
def PySem.W.Fast.tw7342181463376789787 : Unit := ()
def PySem.W.Fast.tw1075487110278809082 : Unit := ()
def PySem.W.Fast.tw13697742955119741263 : Unit := ()
def PySem.W.Fast.tw12960162239103859787 : Unit := ()
def PySem.W.Fast.tw7243193391108524551 : Unit := ()
def PySem.W.Fast.tw15569276046821426208 : Unit := ()
def PySem.W.Fast.tw3174558962039868596 : Unit := ()
def PySem.W.Fast.tw5098232789724797377 : Unit := ()
def PySem.W.Fast.tw521599983468712671 : Unit := ()
def PySem.W.Fast.tw16758677322102401318 : Unit := ()
def PySem.W.Fast.tw15698853232311301479 : Unit := ()
def PySem.W.Fast.tw4587048464654903739 : Unit := ()
def PySem.W.Fast.tw14377333367363718826 : Unit := ()
def PySem.W.Fast.tw588530892017083935 : Unit := ()
def PySem.W.Fast.tw3728249005605742566 : Unit := ()
def PySem.W.Fast.tw7509943729898325394 : Unit := ()
def PySem.W.Fast.tw14909105234061382451 : Unit := ()
def PySem.W.Fast.tw14204512888887930316 : Unit := ()
def PySem.W.Fast.tw4932437246686442157 : Unit := ()
def PySem.W.Fast.tw4186206093048175264 : Unit := ()
def PySem.W.Fast.tw12716111319864661038 : Unit := ()
set_option maxRecDepth 100000 in
set_option maxHeartbeats 0 in
theorem PySem.Challenge.cw_wapentake_k28_oaths_refused_in_order_holds : PySem.Challenge.rw_wapentake_k28_oaths_refused_in_order.Holds := by
  w_on; o_law; k_head; (case hw => w_witness2)
  k_fill
  refine' K28.walk (l := PySem.Challenge.rw_wapentake_k28_oaths_refused_in_order) (cc := _) (Pt := _) rfl rfl (fun w h Y => PySem.W.km_in_of Y) ?hT ?hC0 ?hK ?F
  case F =>
    intro w mg fa h KX G hmg
    refine' K28.all_mk KX G hmg ?lZ ?hZ ?hH ?a1 ?l1 ?c1 ?k1 ?a2 ?l2 ?c2 ?k2 ?a3 ?l3 ?c3 ?k3 ?a4 ?l4 ?c4 ?k4 ?a5 ?l5 ?c5 ?k5 ?a6 ?l6 ?c6 ?k6 ?a7 ?l7 ?c7 ?k7 ?a8 ?l8 ?c8 ?k8 ?a9 ?l9 ?c9 ?k9 ?a10 ?l10 ?c10 ?k10 ?a11 ?l11 ?c11 ?k11 ?a12 ?l12 ?c12 ?k12 ?a13 ?l13 ?c13 ?k13 ?a14 ?l14 ?c14 ?k14 ?a15 ?l15 ?c15 ?k15 ?a16 ?l16 ?c16 ?k16 ?a17 ?l17 ?c17 ?k17 ?a18 ?l18 ?c18 ?k18 ?a19 ?l19 ?c19 ?k19 ?a20 ?l20 ?c20 ?k20 ?a21 ?l21 ?c21 ?k21 ?a22 ?l22 ?c22 ?k22 ?a23 ?l23 ?c23 ?k23 ?a24 ?l24 ?c24 ?k24 ?a25 ?l25 ?c25 ?k25 ?a26 ?l26 ?c26 ?k26 ?a27 ?l27 ?c27 ?k27 ?a28 ?l28 ?c28 ?k28 ?a29 ?l29 ?c29 ?k29 ?a30 ?l30 ?c30 ?k30 ?a31 ?l31 ?c31 ?k31 ?a32 ?l32 ?c32 ?k32 ?a33 ?l33 ?c33 ?k33 ?a34 ?l34 ?c34 ?k34 ?a35 ?l35 ?c35 ?k35 ?mW ?oW ?vW ?saW ?gaW ?gnW ?nwW ?inW ?ifW ?kpW ?liW ?cdW ?keW ?mC ?oC ?vC ?saC ?gaC ?gnC ?nwC ?inC ?ifC ?kpC ?liC ?cdC ?keC ?mS ?oS ?vS ?saS ?gaS ?gnS ?nwS ?inS ?ifS ?kpS ?liS ?cdS ?keS ?mB ?oB ?vB ?saB ?gaB ?gnB ?nwB ?inB ?ifB ?kpB ?liB ?cdB ?keB ?mQ ?oQ ?vQ ?saQ ?gaQ ?gnQ ?nwQ ?inQ ?ifQ ?kpQ ?liQ ?cdQ ?keQ ?mG ?oG ?vG ?saG ?gaG ?gnG ?nwG ?inG ?ifG ?kpG ?liG ?cdG ?keG ?uC ?uS ?wg ?wr ?wf ?gv ?uB ?uQ ?uG ?gq ?gs ?z0 ?z1 ?z2 ?z3 ?z4 ?z5 ?z6 ?z7 ?z8 ?z9 ?z10 ?z11 ?z12 ?z13 ?z14
    (case a1 => k_is)
    (case l1 => k_is)
    (case c1 => k_is)
    (case k1 => k_is)
    (case a2 => k_is)
    (case l2 => k_is)
    (case c2 => k_is)
    (case k2 => k_is)
    (case a3 => k_is)
    (case l3 => k_is)
    (case c3 => k_is)
    (case k3 => k_is)
    (case a4 => k_is)
    (case l4 => k_is)
    (case c4 => k_is)
    (case k4 => k_is)
    (case a5 => k_is)
    (case l5 => k_is)
    (case c5 => k_is)
    (case k5 => k_is)
    (case a6 => k_is)
    (case l6 => k_is)
    (case c6 => k_is)
    (case k6 => k_is)
    (case a7 => k_is)
    (case l7 => k_is)
    (case c7 => k_is)
    (case k7 => k_is)
    (case a8 => k_is)
    (case l8 => k_is)
    (case c8 => k_is)
    (case k8 => k_is)
    (case a9 => k_is)
    (case l9 => k_is)
    (case c9 => k_is)
    (case k9 => k_is)
    (case a10 => k_is)
    (case l10 => k_is)
    (case c10 => k_is)
    (case k10 => k_is)
    (case a11 => k_is)
    (case l11 => k_is)
    (case c11 => k_is)
    (case k11 => k_is)
    (case a12 => k_is)
    (case l12 => k_is)
    (case c12 => k_is)
    (case k12 => k_is)
    (case a13 => k_is)
    (case l13 => k_is)
    (case c13 => k_is)
    (case k13 => k_is)
    (case a14 => k_is)
    (case l14 => k_is)
    (case c14 => k_is)
    (case k14 => k_is)
    (case a15 => k_is)
    (case l15 => k_is)
    (case c15 => k_is)
    (case k15 => k_is)
    (case a16 => k_is)
    (case l16 => k_is)
    (case c16 => k_is)
    (case k16 => k_is)
    (case a17 => k_is)
    (case l17 => k_is)
    (case c17 => k_is)
    (case k17 => k_is)
    (case a18 => k_is)
    (case l18 => k_is)
    (case c18 => k_is)
    (case k18 => k_is)
    (case a19 => k_is)
    (case l19 => k_is)
    (case c19 => k_is)
    (case k19 => k_is)
    (case a20 => k_is)
    (case l20 => k_is)
    (case c20 => k_is)
    (case k20 => k_is)
    (case a21 => k_is)
    (case l21 => k_is)
    (case c21 => k_is)
    (case k21 => k_is)
    (case a22 => k_is)
    (case l22 => k_is)
    (case c22 => k_is)
    (case k22 => k_is)
    (case a23 => k_is)
    (case l23 => k_is)
    (case c23 => k_is)
    (case k23 => k_is)
    (case a24 => k_is)
    (case l24 => k_is)
    (case c24 => k_is)
    (case k24 => k_is)
    (case a25 => k_is)
    (case l25 => k_is)
    (case c25 => k_is)
    (case k25 => k_is)
    (case a26 => k_is)
    (case l26 => k_is)
    (case c26 => k_is)
    (case k26 => k_is)
    (case a27 => k_is)
    (case l27 => k_is)
    (case c27 => k_is)
    (case k27 => k_is)
    (case a28 => k_is)
    (case l28 => k_is)
    (case c28 => k_is)
    (case k28 => k_is)
    (case a29 => k_is)
    (case l29 => k_is)
    (case c29 => k_is)
    (case k29 => k_is)
    (case a30 => k_is)
    (case l30 => k_is)
    (case c30 => k_is)
    (case k30 => k_is)
    (case a31 => k_is)
    (case l31 => k_is)
    (case c31 => k_is)
    (case k31 => k_is)
    (case a32 => k_is)
    (case l32 => k_is)
    (case c32 => k_is)
    (case k32 => k_is)
    (case a33 => k_is)
    (case l33 => k_is)
    (case c33 => k_is)
    (case k33 => k_is)
    (case a34 => k_is)
    (case l34 => k_is)
    (case c34 => k_is)
    (case lZ => k_is)
    (case hZ => rfl)
    (case hH => kernel_rfl)
    (case k34 => k_is)
    (case a35 => k_is)
    (case l35 => k_is)
    (case c35 => k_is)
    (case k35 => k_is)
    (case mW => k_is)
    (case oW => k_is)
    (case vW => exact ⟨by decide +kernel, by decide +kernel, by decide +kernel, by decide +kernel, by decide +kernel, fun _ => rfl⟩)
    (case saW => k_is)
    (case gaW => k_is)
    (case gnW => k_is)
    (case nwW => k_is)
    (case inW => k_is)
    (case ifW => k_is)
    (case kpW => k_is)
    (case liW => k_is)
    (case cdW => k_is)
    (case keW => k_is)
    (case mC => k_is)
    (case oC => k_is)
    (case vC => exact ⟨by decide +kernel, by decide +kernel, by decide +kernel, by decide +kernel, by decide +kernel, fun _ => rfl⟩)
    (case saC => k_is)
    (case gaC => k_is)
    (case gnC => k_is)
    (case nwC => k_is)
    (case inC => k_is)
    (case ifC => k_is)
    (case kpC => k_is)
    (case liC => k_is)
    (case cdC => k_is)
    (case keC => k_is)
    (case mS => k_is)
    (case oS => k_is)
    (case vS => exact ⟨by decide +kernel, by decide +kernel, by decide +kernel, by decide +kernel, by decide +kernel, fun _ => rfl⟩)
    (case saS => k_is)
    (case gaS => k_is)
    (case gnS => k_is)
    (case nwS => k_is)
    (case inS => k_is)
    (case ifS => k_is)
    (case kpS => k_is)
    (case liS => k_is)
    (case cdS => k_is)
    (case keS => k_is)
    (case mB => k_is)
    (case oB => k_is)
    (case vB => exact ⟨by decide +kernel, by decide +kernel, by decide +kernel, by decide +kernel, by decide +kernel, fun _ => rfl⟩)
    (case saB => k_is)
    (case gaB => k_is)
    (case gnB => k_is)
    (case nwB => k_is)
    (case inB => k_is)
    (case ifB => k_is)
    (case kpB => k_is)
    (case liB => k_is)
    (case cdB => k_is)
    (case keB => k_is)
    (case mQ => k_is)
    (case oQ => k_is)
    (case vQ => exact ⟨by decide +kernel, by decide +kernel, by decide +kernel, by decide +kernel, by decide +kernel, fun _ => rfl⟩)
    (case saQ => k_is)
    (case gaQ => k_is)
    (case gnQ => k_is)
    (case nwQ => k_is)
    (case inQ => k_is)
    (case ifQ => k_is)
    (case kpQ => k_is)
    (case liQ => k_is)
    (case cdQ => k_is)
    (case keQ => k_is)
    (case mG => k_is)
    (case oG => k_is)
    (case vG => exact ⟨by decide +kernel, by decide +kernel, by decide +kernel, by decide +kernel, by decide +kernel, fun _ => rfl⟩)
    (case saG => k_is)
    (case gaG => k_is)
    (case gnG => k_is)
    (case nwG => k_is)
    (case inG => k_is)
    (case ifG => k_is)
    (case kpG => k_is)
    (case liG => k_is)
    (case cdG => k_is)
    (case keG => k_is)
    (case uC => decide +kernel)
    (case uS => decide +kernel)
    (case wg => k_is)
    (case wr => k_is)
    (case wf => k_is)
    (case gv => k_is)
    (case uB => decide +kernel)
    (case uQ => decide +kernel)
    (case uG => decide +kernel)
    (case gq => k_is)
    (case gs => k_is)
    (case z0 => k_is)
    (case z1 => k_is)
    (case z2 => k_is)
    (case z3 => k_is)
    (case z4 => k_is)
    (case z5 => k_is)
    (case z6 => k_is)
    (case z7 => k_is)
    (case z8 => k_is)
    (case z9 => k_is)
    (case z10 => k_is)
    (case z11 => k_is)
    (case z12 => k_is)
    (case z13 => k_is)
    (case z14 => k_is)
  case hT => exact fun w h Y => PySem.W.km_tabs_of Y _ (by decide)
  case hC0 => intro w; kernel_rfl
  case hK => intro w; kernel_rfl
#print axioms PySem.Challenge.cw_wapentake_k28_oaths_refused_in_order_holds
