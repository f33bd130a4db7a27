import PyProof.Rows.All
import Wide.All
import OpenK.AllK
import Wide.FinOn
import Lean
import PyProof.EqAt
import PyProof.EqKinds
import PyProof.TupleCall
import PySem.Challenge.RW_wapentake_k44_texts_of_no_deed
import KE.KLam
import KE.KNestM
import PyProof.StrBlockH
import PyProof.StrLawsIn
import PyProof.FString5
import KE.KIntText
import KE.KUnpack
import PyProof.Draws
import PyProof.EnumMake
import PyProof.Rows.EnumRows
import KE.KDictSum
import PyProof.Rows.SeqCalls
import KE.KPairRows
import PyProof.NeKinds
import PyProof.Rows.EqBoolInt
import PyProof.SliceList
set_option Elab.async false
set_option linter.all false
set_option maxRecDepth 100000
namespace L2
open PySem PySem.Spec PyProof.Rows
abbrev Key := Sum Int Str
def keyIs : Key → Value → Bool
  | .inl k, v => Value.isInt k v
  | .inr x, v => Value.isStrOf x v
def keyH (w : World) : Key → Int
  | .inl k => hashInt k
  | .inr x => hashStr w x
theorem keyIs_shape : ∀ {k : Key} {v : Value}, keyIs k v = true → (∃ i t, k = Sum.inl i ∧ v = Value.int i t) ∨ (∃ x t, k = Sum.inr x ∧ v = Value.str x t)
  | .inl i, v, h => by
    obtain ⟨t, e⟩ := Value.isInt_shape (k := i) (v := v) h
    exact .inl ⟨i, t, rfl, e⟩
  | .inr x, v, h => by
    obtain ⟨t, e⟩ := Value.isStrOf_shape (x := x) (v := v) h
    exact .inr ⟨x, t, rfl, e⟩
theorem keyIs_int (i : Int) (t : Tok) : keyIs (.inl i) (.int i t) = true := by simp [keyIs, Value.isInt]
theorem keyIs_str (x : Str) (t : Tok) : keyIs (.inr x) (.str x t) = true := by simp [keyIs, Value.isStrOf]
theorem key_ll (a b : Int) : decide ((Sum.inl a : Key) = Sum.inl b) = (a == b) := by
  by_cases e : a = b
  · subst e; simp
  · have h : ¬ (Sum.inl a : Key) = Sum.inl b := fun q => e (Sum.inl.inj q)
    rw [decide_eq_false h]
    exact (beq_eq_false_iff_ne.mpr e).symm
theorem key_rr (a b : Str) : decide ((Sum.inr a : Key) = Sum.inr b) = decide (a = b) := by
  by_cases e : a = b
  · subst e; simp
  · have h : ¬ (Sum.inr a : Key) = Sum.inr b := fun q => e (Sum.inr.inj q)
    rw [decide_eq_false h, decide_eq_false e]
theorem key_lr (a : Int) (b : Str) : decide ((Sum.inl a : Key) = Sum.inr b) = false := decide_eq_false (fun q => nomatch q)
theorem key_rl (a : Str) (b : Int) : decide ((Sum.inr a : Key) = Sum.inl b) = false := decide_eq_false (fun q => nomatch q)
def mixKind (prog : Program) (w : World) : PySem.KeyKind prog w Key where
  is := keyIs
  hash := keyH w
  inj := fun v a b ha hb => by
    rcases keyIs_shape ha with ⟨i, t, rfl, rfl⟩ | ⟨x, t, rfl, rfl⟩
    · rcases keyIs_shape hb with ⟨j, u, rfl, e⟩ | ⟨y, u, rfl, e⟩
      · injection e with e1 _; rw [e1]
      · exact nomatch e
    · rcases keyIs_shape hb with ⟨j, u, rfl, e⟩ | ⟨y, u, rfl, e⟩
      · exact nomatch e
      · injection e with e1 _; rw [e1]
  byValue := fun k v h => by
    rcases keyIs_shape h with ⟨i, t, rfl, rfl⟩ | ⟨x, t, rfl, rfl⟩ <;> rfl
  pyHash := fun hv h => by
    rcases keyIs_shape hv with ⟨i, t, rfl, rfl⟩ | ⟨x, t, rfl, rfl⟩
    · exact wpAny_pyHash_int h
    · exact wpAny_pyHash_str h
  eqBool := fun hu hv h => by
    rcases keyIs_shape hu with ⟨i, t, rfl, rfl⟩ | ⟨x, t, rfl, rfl⟩
    · rcases keyIs_shape hv with ⟨j, u, rfl, rfl⟩ | ⟨y, u, rfl, rfl⟩
      · rw [key_ll] at h; exact wpAny_eqBool_int h
      · rw [key_lr] at h; exact SeqAt.EqAt.int_str i t y u _ _ _ _ h
    · rcases keyIs_shape hv with ⟨j, u, rfl, rfl⟩ | ⟨y, u, rfl, rfl⟩
      · rw [key_rl] at h; exact SeqAt.EqAt.str_int x t j u _ _ _ _ h
      · rw [key_rr] at h; exact wpAny_eqBool_str h
  «strs» := fun k x t v h => by
    rcases keyIs_shape h with ⟨i, u, rfl, e⟩ | ⟨y, u, rfl, e⟩
    · exact nomatch e
    · injection e with e1 _
      subst e1
      cases v <;> rfl
theorem mixKind_int (prog : Program) (w : World) (i : Int) (t : Tok) : (mixKind prog w).is (.inl i) (.int i t) = true := keyIs_int i t
theorem mixKind_str (prog : Program) (w : World) (x : Str) (t : Tok) : (mixKind prog w).is (.inr x) (.str x t) = true := keyIs_str x t
end L2
namespace L2
open PySem PySem.Spec PyProof.Rows
inductive V where
  | non | bl (b : Bool) | int (i : Int) | str (x : Str) | byt (b : Array UInt8) | flt (b : UInt64) | ref (a : Addr) | ty (n : String)
  deriving DecidableEq
def RelV : V → Value → Prop
  | .non, u => u = Value.none
  | .bl b, u => u = Value.bool b
  | .int i, u => ∃ t, u = Value.int i t
  | .str x, u => ∃ t, u = Value.str x t
  | .byt b, u => ∃ t, u = Value.bytes b t
  | .flt b, u => ∃ t, u = Value.float b t
  | .ref a, u => u = Value.ref a
  | .ty n, u => u = Value.type n
abbrev Vals : List V → List Value → Prop := Paired RelV
theorem Vals.length {xs : List V} {us : List Value} (r : Vals xs us) : xs.length = us.length := Paired.length r
theorem Vals.get : ∀ {xs : List V} {us : List Value} {i : Nat} {x : V}, Vals xs us → xs[i]? = some x → ∃ u, us[i]? = some u ∧ RelV x u
  | _, _, _, _, .nil, e => by simp at e
  | _, _, 0, _, .cons r _, e => by simp at e; subst e; exact ⟨_, rfl, r⟩
  | _, _, i + 1, x, .cons _ t, e => by
    obtain ⟨u, h1, h2⟩ := Vals.get (i := i) (x := x) t (by simpa using e)
    exact ⟨u, by simpa using h1, h2⟩
theorem Vals.set {x : V} {u : Value} (r : RelV x u) : ∀ {xs : List V} {us : List Value} (i : Nat), Vals xs us → Vals (xs.set i x) (us.set i u)
  | _, _, _, .nil => .nil
  | _, _, 0, .cons _ t => .cons r t
  | _, _, i + 1, .cons q t => .cons q (Vals.set r i t)
theorem Vals.append : ∀ {xs ys : List V} {us ws : List Value}, Vals xs us → Vals ys ws → Vals (xs ++ ys) (us ++ ws)
  | _, _, _, _, .nil, s => s
  | _, _, _, _, .cons r t, s => .cons r (Vals.append t s)
theorem Vals.take : ∀ {xs : List V} {us : List Value} (n : Nat), Vals xs us → Vals (xs.take n) (us.take n)
  | _, _, 0, _ => .nil
  | _, _, _ + 1, .nil => .nil
  | _, _, n + 1, .cons r t => .cons r (Vals.take n t)
theorem Vals.drop : ∀ {xs : List V} {us : List Value} (n : Nat), Vals xs us → Vals (xs.drop n) (us.drop n)
  | _, _, 0, r => r
  | _, _, _ + 1, .nil => .nil
  | _, _, n + 1, .cons _ t => Vals.drop n t
def RelO : Option V → Option Value → Prop
  | some v, some u => RelV v u
  | none, none => True
  | _, _ => False
def KV {κ : Type} : List (κ × V) → List (κ × Value) → Prop := Paired fun (p : κ × V) (q : κ × Value) => p.1 = q.1 ∧ RelV p.2 q.2
def kV : Key → V
  | .inl i => .int i
  | .inr x => .str x
inductive HO where
  /-- a list -/
  | lst (xs : List V)
  /-- a tuple (never changes) -/
  | tup (xs : List V)
  /-- a dict whose keys are ints and texts; one whose keys are tuples of ints and texts (the empty one is both) -/
  | dK (kvs : List (Key × V)) | dT (kvs : List (List Key × V))
  /-- a set of ints: its members, its size -/
  | set (S : Int → Bool) (n : Nat)
  /-- an instance of the class at C, its dict at dx, its attributes -/
  | ins (C dx : Addr) (fs : List (Str × V))
  /-- the dict of the instance at x -/
  | own (x : Addr)
  /-- the dict of an exception -/
  | xd (fs : List (Str × V))
  /-- a bound method, f of x -/
  | met (f x : Addr)
  /-- a range object lo, lo + 1, .. below hi -/
  | rng (lo hi : Int)
  /-- a thing that is known to the object (the script; a dict while a loop walks it): read, never written while it is so -/
  | frz (o : Obj) (u : HO)
  /-- a code object's table -/
  | tbl (ps : Array Value)
  /-- any other thing, by what is true of its one object (a def of one's own: SetO a S n := HO.ext fun h => ..) -/
  | ext (φ : Heap → Prop)
abbrev Hp := Addr → Option HO
def upd (H : Hp) (a : Addr) (o : HO) : Hp := fun b => if b = a then some o else H b
theorem upd_same {H : Hp} {a : Addr} {o : HO} : upd H a o a = some o := by unfold upd; rw [if_pos rfl]
theorem upd_ne {H : Hp} {a b : Addr} {o : HO} (h : b ≠ a) : upd H a o b = H b := by unfold upd; rw [if_neg h]
theorem upd_upd {H : Hp} {a : Addr} {o u : HO} : upd (upd H a o) a u = upd H a u := by
  funext b; unfold upd; split <;> rfl
theorem ne_of {H : Hp} {a b : Addr} {o u : HO} (h : H a = some o) (h' : H b = some u) (d : o ≠ u) : a ≠ b := by
  intro e; subst e; rw [h] at h'; exact d (Option.some.inj h')
theorem ne_of_none {H : Hp} {a b : Addr} {o : HO} (h : H a = some o) (h' : H b = none) : a ≠ b := by
  intro e; subst e; rw [h] at h'; cases h'
section
variable (P : Program) (w : World)
def ObjOk (H : Hp) (h : Heap) (a : Addr) : HO → Prop
  | .lst xs => xs.length ≤ sizeLine ∧ ∃ (its : List Value) (n : Nat), Vals xs its ∧ h.get? a = some { cls := .type "list", data := .seq its.toArray n }
  | .tup xs => xs.length ≤ sizeLine ∧ ∃ its : List Value, Vals xs its ∧ IsTup h a its.toArray
  | .dK kvs => kvs.length ≤ sizeLine ∧ (a == sysModules) = false ∧ ∃ vs, KV kvs vs ∧ h.DictOf (mixKind P w) a vs
  | .dT kvs => kvs.length ≤ sizeLine ∧ (a == sysModules) = false ∧ ∃ xs : List (List Key × Addr × Value),
      Paired (fun (p : List Key × V) (q : List Key × Addr × Value) => p.1 = q.1 ∧ H q.2.1 = some (.tup (p.1.map kV)) ∧ RelV p.2 q.2.2) kvs xs ∧
      ∃ o es ep, h.get? a = some o ∧ o.ExactDict ∧ o.data = .dict es ep ∧ es.toList = xs.map (entryOfKey (tupleKind (mixKind P w))) ∧ (xs.map (·.1)).Nodup
  | .set S n => h.SetOf (intKind P w) a S n
  | .ins C dx fs => H dx = some (.own a) ∧ fs.length ≤ 1000 ∧ dx ≠ a ∧ h.get? a = some (PySem.W.instObj C dx) ∧
      ∃ mA, h.Ns1 dx mA ∧ (∀ f, RelO (fs.lookup f) (mA f)) ∧ PySem.Within mA (fs.map (·.1))
  | .own _ => ∃ o, h.get? a = some o
  | .xd fs => ∃ mA, h.Ns1 a mA ∧ ∀ f, RelO (fs.lookup f) (mA f)
  | .rng lo hi => ∃ t u v, h.get? a = some { cls := .type "range", data := .fields #[.int lo t, .int hi u, .int 1 v] }
  | .frz o u => h.get? a = some o ∧ ObjOk H h a u
  | .tbl ps => h.get? a = some { cls := .none, data := .fields ps }
  | .met f x => h.get? a = some (PySem.W.methodObj (.ref f) (.ref x))
  | .ext φ => φ h ∧ (∃ o, h.get? a = some o) ∧ ∀ h1 h2 : Heap, φ h1 → (∀ o, h1.get? a = some o → h2.get? a = some o) → φ h2
def HOk (H : Hp) (h : Heap) : Prop := ∀ a o, H a = some o → ObjOk P w H h a o
end
section
variable {P : Program} {w : World} {H H' : Hp} {h h' : Heap} {a : Addr} {o : HO}
theorem ObjOk.lt (x : ObjOk P w H h a o) : a < h.objs.size := by
  cases o with
  | lst xs => obtain ⟨_, _, _, _, e⟩ := x; exact Heap.lt_size e
  | tup xs => obtain ⟨_, _, _, p⟩ := x; exact p.lt
  | dK kvs => obtain ⟨_, _, _, _, o, _, _, e, _⟩ := x; exact Heap.lt_size e
  | dT kvs => obtain ⟨_, _, _, _, o, _, _, e, _⟩ := x; exact Heap.lt_size e
  | set S n => obtain ⟨o, _, _, _, e, _⟩ := x; exact Heap.lt_size e
  | ins C dx fs => obtain ⟨_, _, _, e, _⟩ := x; exact Heap.lt_size e
  | own y => obtain ⟨_, e⟩ := x; exact Heap.lt_size e
  | xd fs => obtain ⟨_, ⟨_, _, _, e, _⟩, _⟩ := x; exact Heap.lt_size e
  | rng lo hi => obtain ⟨_, _, _, e⟩ := x; exact Heap.lt_size e
  | frz ob u => obtain ⟨e, _⟩ := x; exact Heap.lt_size e
  | tbl ps => exact Heap.lt_size (show h.get? a = some _ from x)
  | met f y => exact Heap.lt_size (show h.get? a = some _ from x)
  | ext φ => obtain ⟨_, ⟨_, e⟩, _⟩ := x; exact Heap.lt_size e
theorem Paired.mapP {α β : Type} {F G : α → β → Prop} : ∀ {l₁ : List α} {l₂ : List β}, Paired F l₁ l₂ → (∀ a b, F a b → G a b) → Paired G l₁ l₂
  | _, _, .nil, _ => .nil
  | _, _, .cons r t, f => .cons (f _ _ r) (Paired.mapP t f)
theorem ObjOk.stay (x : ObjOk P w H h a o) (k : ∀ b u, (b = a ∨ H b = some (.own a)) → h.get? b = some u → h'.get? b = some u)
    (ho : ∀ b, H b = some (.own a) → H' b = some (.own a)) (ht : ∀ b xs, H b = some (.tup xs) → H' b = some (.tup xs)) : ObjOk P w H' h' a o := by
  induction o with
  | lst xs => obtain ⟨z, its, n, r, e⟩ := x; exact ⟨z, its, n, r, k _ _ (.inl rfl) e⟩
  | tup xs => obtain ⟨z, its, r, ob, e, c⟩ := x; exact ⟨z, its, r, ob, k _ _ (.inl rfl) e, c⟩
  | dK kvs => obtain ⟨z, y, vs, r, ob, es, ep, e, c⟩ := x; exact ⟨z, y, vs, r, ob, es, ep, k _ _ (.inl rfl) e, c⟩
  | dT kvs =>
    obtain ⟨z, y, xs, r, ob, es, ep, e, c⟩ := x
    exact ⟨z, y, xs, Paired.mapP r fun p q z => ⟨z.1, ht _ _ z.2.1, z.2.2⟩, ob, es, ep, k _ _ (.inl rfl) e, c⟩
  | set S n => obtain ⟨ob, es, ep, t, e, c⟩ := x; exact ⟨ob, es, ep, t, k _ _ (.inl rfl) e, c⟩
  | ins C dx fs =>
    obtain ⟨d, z, ne, e, mA, ⟨od, es, ep, e2, c⟩, r⟩ := x
    exact ⟨ho _ d, z, ne, k _ _ (.inl rfl) e, mA, ⟨od, es, ep, k _ _ (.inr d) e2, c⟩, r⟩
  | own y => obtain ⟨ob, e⟩ := x; exact ⟨ob, k _ _ (.inl rfl) e⟩
  | xd fs => obtain ⟨mA, ⟨od, es, ep, e, c⟩, r⟩ := x; exact ⟨mA, ⟨od, es, ep, k _ _ (.inl rfl) e, c⟩, r⟩
  | rng lo hi => obtain ⟨t, u, v, e⟩ := x; exact ⟨t, u, v, k _ _ (.inl rfl) e⟩
  | frz ob u ih => obtain ⟨e, q⟩ := x; exact ⟨k _ _ (.inl rfl) e, ih q⟩
  | tbl ps =>
    have e : h.get? a = some { cls := .none, data := .fields ps } := x
    show h'.get? a = some { cls := .none, data := .fields ps }
    exact k a _ (.inl rfl) e
  | met f y =>
    have e : h.get? a = some (PySem.W.methodObj (.ref f) (.ref y)) := x
    show h'.get? a = some (PySem.W.methodObj (.ref f) (.ref y))
    exact k a _ (.inl rfl) e
  | ext φ => obtain ⟨p, ⟨o, e⟩, st⟩ := x; exact ⟨st _ _ p fun o q => k _ _ (.inl rfl) q, ⟨o, k _ _ (.inl rfl) e⟩, st⟩
theorem HOk.lt (x : HOk P w H h) (e : H a = some o) : a < h.objs.size := (x a o e).lt
theorem HOk.fresh (x : HOk P w H h) (e : h.objs.size ≤ a) : H a = none := by
  cases q : H a with
  | none => rfl
  | some u => exact absurd (Nat.lt_of_lt_of_le (x.lt q) e) (Nat.lt_irrefl _)
theorem HOk.kept (x : HOk P w H h) (k : ∀ b u, h.get? b = some u → h'.get? b = some u) : HOk P w H h' := fun a o e =>
  (x a o e).stay (fun b u _ q => k b u q) (fun _ q => q) fun _ _ q => q
theorem HOk.laid (x : HOk P w H h) (k : ∀ b u, h.get? b = some u → h'.get? b = some u) (hp : h.objs.size ≤ a) (new : ObjOk P w (upd H a o) h' a o) : HOk P w (upd H a o) h' := fun b u e => by
  have hn := x.fresh hp
  by_cases hb : b = a
  · subst hb; rw [upd_same] at e; cases e; exact new
  · rw [upd_ne hb] at e
    exact (x b u e).stay (fun c v _ q => k c v q) (fun c q => by rw [upd_ne (ne_of_none q hn)]; exact q) fun c xs q => by rw [upd_ne (ne_of_none q hn)]; exact q
end
def Rd (H : Hp) (a : Addr) (u : HO) : Prop := H a = some u ∨ ∃ o, H a = some (.frz o u)
theorem Rd.of {H : Hp} {a : Addr} {u : HO} (h : H a = some u) : Rd H a u := .inl h
theorem Rd.ok {P : Program} {w : World} {H : Hp} {h : Heap} {a : Addr} {u : HO} (r : Rd H a u) (x : HOk P w H h) : ObjOk P w H h a u := by
  rcases r with r | ⟨o, r⟩
  · exact x a u r
  · obtain ⟨_, q⟩ := x a _ r
    exact q
def Mut : Option HO → Prop
  | some (.lst _) => True
  | some (.dK _) => True
  | some (.dT _) => True
  | some (.set _ _) => True
  | some (.ins _ _ _) => True
  | some (.ext _) => True
  | _ => False
section
variable {P : Program} {w : World} {H : Hp} {h h' : Heap} {x e : Addr} {o' : HO}
theorem HOk.write (ok : HOk P w H h) (mu : Mut (H x)) (he : e = x ∨ H e = some (.own x)) (k : ∀ b u, b ≠ e → h.get? b = some u → h'.get? b = some u) (heo : ∃ u, h'.get? e = some u)
    (new : ObjOk P w (upd H x o') h' x o') : HOk P w (upd H x o') h' := fun b u q => by
  have nown : ∀ c y, H c = some (.own y) → c ≠ x := fun c y r z => by subst z; rw [r] at mu; exact mu
  have ntup : ∀ c xs, H c = some (.tup xs) → c ≠ x := fun c xs r z => by subst z; rw [r] at mu; exact mu
  by_cases hb : b = x
  · subst hb; rw [upd_same] at q; cases q; exact new
  · rw [upd_ne hb] at q
    by_cases hbe : b = e
    · have q' : H b = some (.own x) := by
        rcases he with z | z
        · exact absurd (hbe.trans z) hb
        · rw [hbe]; exact z
      rw [q] at q'; cases q'
      obtain ⟨v, hv⟩ := heo
      exact ⟨v, by rw [hbe]; exact hv⟩
    · refine (ok b u q).stay (fun c v hc r => k c v ?_ r) (fun c r => by rw [upd_ne (nown c b r)]; exact r) fun c xs r => by rw [upd_ne (ntup c xs r)]; exact r
      rcases hc with rfl | hc
      · exact hbe
      · rintro rfl
        rcases he with z | z
        · exact nown c b hc z
        · rw [hc] at z; cases z; exact hb rfl
end
structure Un (fs ex : List Addr) (H H' : Hp) (h h' : Heap) : Prop where
  keep : ∀ b o, h.get? b = some o → H b = none → b ∉ fs → b ∉ ex → h'.get? b = some o
  slot : ∀ b o, h.get? b = some o → H b = none → b ∈ fs → b ∉ ex → ∃ sl, h'.get? b = some { o with slots := sl }
  free : ∀ b o, h.get? b = some o → H b = none → b ∉ ex → H' b = none
  there : ∀ b o, h.get? b = some o → b ∉ ex → ∃ o', h'.get? b = some o'
  tups : ∀ b xs, H b = some (.tup xs) → H' b = some (.tup xs)
  frzs : ∀ b o u, H b = some (.frz o u) → H' b = some (.frz o u)
  tbls : ∀ b ps, H b = some (.tbl ps) → ∃ more, H' b = some (.tbl (ps ++ more))
section
variable {fs fs' ex ex' : List Addr} {H H1 H2 : Hp} {h h1 h2 h' : Heap} {a x e : Addr} {o : HO}
theorem Un.any (u : Un fs ex H H1 h h1) {b : Addr} {ob : Obj} (q : h.get? b = some ob) (n : H b = none) (hx : b ∉ ex) : ∃ sl, h1.get? b = some { ob with slots := sl } := by
  by_cases hb : b ∈ fs
  · exact u.slot b ob q n hb hx
  · exact ⟨ob.slots, u.keep b ob q n hb hx⟩
theorem Un.trans (a : Un fs ex H H1 h h1) (b : Un fs ex H1 H2 h1 h2) : Un fs ex H H2 h h2 where
  keep := fun c ob q n hc hx => b.keep c ob (a.keep c ob q n hc hx) (a.free c ob q n hx) hc hx
  slot := fun c ob q n hc hx => by
    obtain ⟨sl, e1⟩ := a.slot c ob q n hc hx
    obtain ⟨sl', e2⟩ := b.slot c _ e1 (a.free c ob q n hx) hc hx
    exact ⟨sl', e2⟩
  free := fun c ob q n hx => by
    obtain ⟨o', e1⟩ := a.there c ob q hx
    exact b.free c o' e1 (a.free c ob q n hx) hx
  there := fun c ob q hx => by
    obtain ⟨o', e1⟩ := a.there c ob q hx
    exact b.there c o' e1 hx
  tups := fun c xs q => b.tups c xs (a.tups c xs q)
  frzs := fun c ob xs q => b.frzs c ob xs (a.frzs c ob xs q)
  tbls := fun c ps q => by
    obtain ⟨m1, e1⟩ := a.tbls c ps q
    obtain ⟨m2, e2⟩ := b.tbls c _ e1
    exact ⟨m1 ++ m2, by rw [e2, Array.append_assoc]⟩
theorem Un.kept (k : ∀ b u, h.get? b = some u → h'.get? b = some u) : Un fs ex H H h h' :=
  ⟨fun b ob q _ _ _ => k b ob q, fun b ob q _ _ _ => ⟨ob.slots, k b ob q⟩, fun _ _ _ n _ => n, fun b ob q _ => ⟨ob, k b ob q⟩, fun _ _ q => q, fun _ _ _ q => q, fun _ ps q => ⟨#[], by rw [q]; simp⟩⟩
theorem Un.refl : Un fs ex H H h h := Un.kept fun _ _ q => q
theorem Un.laid (k : ∀ b u, h.get? b = some u → h'.get? b = some u) (hp : h.objs.size ≤ a) (hn : H a = none) : Un fs ex H (upd H a o) h h' where
  keep := fun b u q _ _ _ => k b u q
  slot := fun b u q _ _ _ => ⟨u.slots, k b u q⟩
  free := fun b u q n _ => by rw [upd_ne (Nat.ne_of_lt (Nat.lt_of_lt_of_le (Heap.lt_size q) hp))]; exact n
  there := fun b u q _ => ⟨u, k b u q⟩
  tups := fun b xs q => by rw [upd_ne (ne_of_none q hn)]; exact q
  frzs := fun b u xs q => by rw [upd_ne (ne_of_none q hn)]; exact q
  tbls := fun b ps q => ⟨#[], by rw [upd_ne (ne_of_none q hn), q]; simp⟩
theorem Un.write (mu : Mut (H x)) (he : e = x ∨ H e = some (.own x)) (k : ∀ b u, b ≠ e → h.get? b = some u → h'.get? b = some u) (heo : ∃ u, h'.get? e = some u) : Un fs ex H (upd H x o) h h' := by
  have hx : ∀ b, H b = none → b ≠ x := fun b n z => by subst z; rw [n] at mu; exact mu
  have hb : ∀ b, H b = none → b ≠ e := fun b n z => by
    subst z
    rcases he with r | r
    · exact hx b n r
    · rw [n] at r; cases r
  have hm : ∀ b u, H b = some u → ¬ Mut (some u) → b ≠ x := fun b u q nm z => by subst z; rw [q] at mu; exact nm mu
  refine ⟨fun b u q n _ _ => k b u (hb b n) q, fun b u q n _ _ => ⟨u.slots, k b u (hb b n) q⟩, fun b u q n _ => by rw [upd_ne (hx b n)]; exact n, fun b u q _ => ?_,
    fun b xs q => by rw [upd_ne (hm b _ q fun z => z)]; exact q, fun b u xs q => by rw [upd_ne (hm b _ q fun z => z)]; exact q, fun b ps q => ⟨#[], by rw [upd_ne (hm b _ q fun z => z), q]; simp⟩⟩
  by_cases hbe : b = e
  · subst hbe; exact heo
  · exact ⟨u, k b u hbe q⟩
theorem Un.mono (u : Un fs ex H H1 h h1) (hs : ∀ b ∈ fs, b ∈ fs') (hx : ∀ b ∈ ex, b ∈ ex') : Un fs' ex' H H1 h h1 :=
  ⟨fun b ob q n hb he => u.keep b ob q n (fun z => hb (hs b z)) fun z => he (hx b z), fun _ _ q n _ he => u.any q n fun z => he (hx _ z), fun b ob q n he => u.free b ob q n fun z => he (hx b z), fun b ob q he => u.there b ob q fun z => he (hx b z), u.tups, u.frzs, u.tbls⟩
end
def trk (h : Heap) (H : Hp) : List Addr := (List.range h.objs.size).filter fun a => (H a).isSome
def hidT (h : Heap) (H : Hp) : Heap := PySem.W.hideAll h (trk h H)
theorem hidT_size (h : Heap) (H : Hp) : (hidT h H).objs.size = h.objs.size := PySem.W.hideAll_size _ _
theorem hidT_get {h : Heap} {H : Hp} {b : Addr} {o : Obj} (e : h.get? b = some o) (n : H b = none) : (hidT h H).get? b = some o :=
  PySem.W.hideAll_get _ e fun hm => by
    have q : (H b).isSome = true := (List.mem_filter.mp hm).2
    rw [n] at q; simp at q
theorem of_hidT {h : Heap} {H : Hp} {b : Addr} {o : Obj} (e : (hidT h H).get? b = some o) : h.get? b = some o ∧ H b = none := by
  have e' : h.get? b = some o := PySem.W.of_hideAll (trk h H) e
  refine ⟨e', ?_⟩
  cases q : H b with
  | none => rfl
  | some x =>
    have hm : b ∈ trk h H := List.mem_filter.mpr ⟨List.mem_range.mpr (Heap.lt_size e'), by simp [q]⟩
    have z : (hidT h H).get? b = none := PySem.W.hideAll_none (trk h H) hm
    rw [z] at e; cases e
def allNews (g h : Heap) (L : Addr) : List (Addr × Obj) := (List.range h.objs.size).filterMap fun a => if a = L ∨ (g.get? a).isSome = true then none else (h.get? a).map fun o => (a, o)
def rest (g h : Heap) (L d : Addr) : List (Addr × Obj) := (allNews g h L).filter fun p => decide (p.1 ≠ d)
end L2
namespace L2
open PySem PySem.Spec PyProof.Rows
structure Mod (K : PySem.W.Frag) (mg : Str → Option Value) (base : Heap) : Prop where
  kin : K.In base
  glob : base.Ns mainGlobals mg
  blt : ∃ mb, base.Ns builtinsNs mb ∧ ∀ x : Str, x ≠ "__name__" → mb x = bootBuiltins x
  nolimit : base.NoLimit
structure Cx where
  prog : Program
  w : World
  K : PySem.W.Frag
  mg : Str → Option Value
  base : Heap
  A : Around
  N : List Str
  s₀ : Shared
  H₀ : Hp
  env : Env
  outer : List Env
  stack : List Env
  ex : List Addr
  fn : Str → Bool
  calm : Bool
  pn : List (Addr × Obj)
  xe : Value → Shared → Prop
def frs (l : List Env) : List Addr := l.filterMap (·.frame)
abbrev Cx.fs (X : Cx) : List Addr := frs X.outer
def Vis (sc : Scope) (x : Str) : Prop := sc.names.lookup x = some .local ∨ sc.names.lookup x = some .cell ∨ sc.names.lookup x = some .free
def Loc (sc : Scope) (x : Str) : Prop := sc.names.lookup x = some .local ∨ sc.names.lookup x = some .cell
def Look (env : Env) (h : Heap) (m : Str → Option Value) (x : Str) (u : Value) : Prop :=
  (env.kindOf x = some .local ∧ m x = some u) ∨ ((env.kindOf x = some .cell ∨ env.kindOf x = some .free) ∧ ∃ c, env.cells.lookup x = some c ∧ h.IsCell c (some u))
structure Cx.Ok (X : Cx) : Prop where
  mod : Mod X.K X.mg X.base
  kind : X.env.scope.kind = .function
  glob : X.env.globals = mainGlobals
  blt : X.env.builtins = builtinsNs
  above : X.s₀.heap.objs.size ≤ X.env.locals
  inj : ∀ x y c, X.env.cells.lookup x = some c → X.env.cells.lookup y = some c → x = y
  has : ∀ x, (X.env.kindOf x = some .cell ∨ X.env.kindOf x = some .free) → ∃ c, X.env.cells.lookup x = some c
  cab : ∀ x c, X.fn x = true → X.env.cells.lookup x = some c → X.s₀.heap.objs.size ≤ c
  hd : X.calm = true → X.A.handled = none
  frames : X.A.frames = some X.stack
  stk : X.stack = X.outer ∨ (X.stack = X.env :: X.outer ∧ X.env.frame = some X.env.locals)
  exf : ∀ b ∈ X.ex, b ≠ X.env.locals ∧ ∀ x c, X.env.cells.lookup x = some c → c ≠ b
  bs : ∀ b o, X.base.get? b = some o → X.s₀.heap.get? b = some o ∧ X.H₀ b = none
  bsz : X.base.objs.size ≤ X.s₀.heap.objs.size
  noex : ∀ b o, X.base.get? b = some o → b ∉ X.ex
  exfs : ∀ b ∈ X.ex, b ∉ X.fs
  funs : X.s₀.heap.FunFrames X.base X.outer
  frf : ∀ b ∈ X.fs, X.H₀ b = none
structure Inv (X : Cx) (pins : List (Addr × Obj)) (σ : List (Option V)) (H : Hp) (s : Shared) : Prop where
  ok : X.Ok
  os : s.os = X.s₀.os
  bare : AllBare s.gens
  base : Un X.fs X.ex X.H₀ H X.s₀.heap s.heap
  loc : ∃ m, s.heap.Ns X.env.locals m ∧ ∀ (i : Nat) (x : Str) (v : V), X.N[i]? = some x → σ[i]? = some (some v) → Vis X.env.scope x → ∃ u, RelV v u ∧ Look X.env s.heap m x u
  cell : ∀ x c, X.env.cells.lookup x = some c → ∃ v, s.heap.IsCell c v
  free : H X.env.locals = none
  freeC : ∀ x c, X.env.cells.lookup x = some c → H c = none
  pin : ∀ p ∈ X.pn ++ pins, s.heap.get? p.1 = some p.2 ∧ H p.1 = none ∧ p.1 ≠ X.env.locals ∧ p.1 ∉ X.fs ∧ ∀ v, p.2.data ≠ .cell v
  hok : HOk X.prog X.w H s.heap
  len : σ.length = X.N.length
section
variable {X : Cx} {pins : List (Addr × Obj)} {σ : List (Option V)} {H H' : Hp} {s : Shared} {h' : Heap}
theorem Cx.Ok.nofr (ok : X.Ok) {b : Addr} {o : Obj} (e : X.base.get? b = some o) : b ∉ X.fs := fun hb => by
  have := (ok.funs.mem hb).1
  rw [e] at this; cases this
theorem Inv.bs (I : Inv X pins σ H s) : ∀ b o, X.base.get? b = some o → s.heap.get? b = some o ∧ H b = none := fun b o e =>
  ⟨I.base.keep b o (I.ok.bs b o e).1 (I.ok.bs b o e).2 (I.ok.nofr e) (I.ok.noex b o e), I.base.free b o (I.ok.bs b o e).1 (I.ok.bs b o e).2 (I.ok.noex b o e)⟩
theorem Inv.bk (I : Inv X pins σ H s) : ∀ b o, X.base.get? b = some o → s.heap.get? b = some o := fun b o e => (I.bs b o e).1
theorem Inv.mod (I : Inv X pins σ H s) : Mod X.K X.mg X.base := I.ok.mod
theorem Inv.kIn (I : Inv X pins σ H s) : X.K.In s.heap := I.ok.mod.kin.keeps I.bk
theorem Inv.nolimit (I : Inv X pins σ H s) : s.heap.NoLimit := I.ok.mod.nolimit.keeps I.bk
theorem Inv.fr (I : Inv X pins σ H s) : ∃ m, Fr X.base X.env.locals s.heap m :=
  let ⟨m, hn, _⟩ := I.loc
  ⟨m, hn, I.bk, Nat.le_trans I.ok.bsz I.ok.above⟩
theorem Inv.lt (I : Inv X pins σ H s) : X.env.locals < s.heap.objs.size := let ⟨_, hn, _⟩ := I.loc; hn.lt
theorem Inv.sz (I : Inv X pins σ H s) : X.s₀.heap.objs.size ≤ s.heap.objs.size := Nat.le_trans I.ok.above (Nat.le_of_lt I.lt)
theorem Inv.nofs (I : Inv X pins σ H s) {a : Addr} (h : s.heap.objs.size ≤ a) : a ∉ X.fs := fun hb => by
  obtain ⟨_, o, ho, _⟩ := I.ok.funs.mem hb
  exact absurd (Nat.lt_of_lt_of_le (Heap.lt_size ho) (Nat.le_trans I.sz h)) (Nat.lt_irrefl _)
theorem Inv.cne (I : Inv X pins σ H s) : ∀ x c, X.env.cells.lookup x = some c → c ≠ X.env.locals := fun x c e z => by
  obtain ⟨v, o, ho, hd⟩ := I.cell x c e
  obtain ⟨m, ⟨o', es, ep, ho', hd', _⟩, _⟩ := I.loc
  rw [z, ho'] at ho; cases ho; rw [hd'] at hd; cases hd
theorem Inv.funs (I : Inv X pins σ H s) : s.heap.FunFrames X.base X.outer := by
  have all : ∀ (l : List Env), (∀ b ∈ frs l, b ∈ X.fs) → X.s₀.heap.FunFrames X.base l → s.heap.FunFrames X.base l := by
    intro l
    induction l with
    | nil => intro _ _; trivial
    | cons env r ih =>
      intro hs hl
      obtain ⟨hk, ⟨L, o, hf, hn, ho, hd⟩, hr⟩ := hl
      have hL : L ∈ X.fs := hs L (by unfold frs; rw [List.filterMap_cons, hf]; exact List.mem_cons_self)
      obtain ⟨sl, e⟩ := I.base.slot L o ho (I.ok.frf L hL) hL fun z => I.ok.exfs L z hL
      exact ⟨hk, ⟨L, _, hf, hn, e, hd⟩, ih (fun b hb => hs b (by unfold frs; rw [List.filterMap_cons, hf]; exact List.mem_cons_of_mem _ hb)) hr⟩
  exact all X.outer (fun _ hb => hb) I.ok.funs
theorem Inv.stack (I : Inv X pins σ H s) : s.heap.FunFrames X.base X.stack := by
  rcases I.ok.stk with e | ⟨e, hf⟩
  · rw [e]; exact I.funs
  · rw [e]
    obtain ⟨m, hn, _⟩ := I.loc
    refine .cons (by rw [I.ok.kind]; decide) hf hn ?_ I.funs
    exact Heap.get?_none_of_le (Nat.le_trans I.ok.bsz I.ok.above)
theorem Inv.stkSub (I : Inv X pins σ H s) : ∀ b ∈ frs X.stack, b ∈ X.env.locals :: X.fs := fun b hb => by
  rcases I.ok.stk with e | ⟨e, hf⟩
  · rw [e] at hb; exact List.mem_cons_of_mem _ hb
  · rw [e] at hb
    unfold frs at hb
    rw [List.filterMap_cons, hf] at hb
    exact hb
theorem Inv.stkFree (I : Inv X pins σ H s) : ∀ b ∈ frs X.stack, H b = none := fun b hb => by
  rcases List.mem_cons.mp (I.stkSub b hb) with e | hb
  · rw [e]; exact I.free
  · obtain ⟨_, o, ho, _⟩ := I.ok.funs.mem hb
    exact I.base.free b o ho (I.ok.frf b hb) fun z => I.ok.exfs b z hb
theorem Inv.step {g' : Array GenState} {t' : Nat} {d' : Drawn} {ch : List Addr} (I : Inv X pins σ H s)
    (hch : ∀ b ∈ ch, (b ∈ X.ex ∨ X.s₀.heap.objs.size ≤ b) ∧ b ≠ X.env.locals ∧ (∀ x c, X.env.cells.lookup x = some c → c ≠ b) ∧ ∀ p ∈ X.pn ++ pins, p.1 ≠ b)
    (keep : ∀ b o, b ≠ X.env.locals → b ∉ X.fs → b ∉ ch → s.heap.get? b = some o → H b = none → h'.get? b = some o)
    (slot : ∀ b o, b ≠ X.env.locals → b ∈ X.fs → b ∉ ch → s.heap.get? b = some o → H b = none → ∃ sl, h'.get? b = some { o with slots := sl }) (free : ∀ b o, b ∉ ch → s.heap.get? b = some o → H b = none → H' b = none)
    (there : ∀ b o, b ∉ ch → s.heap.get? b = some o → ∃ o', h'.get? b = some o')
    (tups : ∀ b xs, H b = some (.tup xs) → H' b = some (.tup xs)) (frzs : ∀ b o u, H b = some (.frz o u) → H' b = some (.frz o u)) (tbls : ∀ b ps, H b = some (.tbl ps) → ∃ more, H' b = some (.tbl (ps ++ more)))
    (ns : ∀ m, s.heap.Ns X.env.locals m → h'.Ns X.env.locals m) (hok : HOk X.prog X.w H' h') (hg : AllBare g') :
    Inv X pins σ H' { s with heap := h', gens := g', drawn := d', toks := t' } := by
  have neL : ∀ b o, X.s₀.heap.get? b = some o → b ≠ X.env.locals := fun b o e => Nat.ne_of_lt (Nat.lt_of_lt_of_le (Heap.lt_size e) I.ok.above)
  have neC : ∀ b o, X.s₀.heap.get? b = some o → b ∉ X.ex → b ∉ ch := fun b o e hx hb => by
    rcases (hch b hb).1 with z | z
    · exact hx z
    · exact absurd (Nat.lt_of_lt_of_le (Heap.lt_size e) z) (Nat.lt_irrefl _)
  have cellK : ∀ x c, X.env.cells.lookup x = some c → ∀ v, s.heap.IsCell c v → h'.IsCell c v := fun x c e v ⟨o, ho, hd⟩ => by
    have nch : c ∉ ch := fun z => (hch c z).2.2.1 x c e rfl
    by_cases hc : c ∈ X.fs
    · obtain ⟨sl, q⟩ := slot c o (I.cne x c e) hc nch ho (I.freeC x c e)
      exact ⟨_, q, hd⟩
    · exact ⟨o, keep c o (I.cne x c e) hc nch ho (I.freeC x c e), hd⟩
  refine ⟨I.ok, I.os, hg, ⟨fun b o e n hb hx => ?_, fun b o e n hb hx => ?_, fun b o e n hx => ?_, fun b o e hx => ?_, fun b xs e => tups b xs (I.base.tups b xs e), fun b o xs e => frzs b o xs (I.base.frzs b o xs e), fun b ps e => ?_⟩, ?_, fun x c e => ?_, ?_, fun x c e => ?_, fun p hp => ?_, hok, I.len⟩
  · exact keep b o (neL b o e) hb (neC b o e hx) (I.base.keep b o e n hb hx) (I.base.free b o e n hx)
  · obtain ⟨sl, e1⟩ := I.base.slot b o e n hb hx
    obtain ⟨sl', e2⟩ := slot b _ (neL b o e) hb (neC b o e hx) e1 (I.base.free b o e n hx)
    exact ⟨sl', e2⟩
  · obtain ⟨o', e1⟩ := I.base.there b o e hx
    exact free b o' (neC b o e hx) e1 (I.base.free b o e n hx)
  · obtain ⟨o', e1⟩ := I.base.there b o e hx
    exact there b o' (neC b o e hx) e1
  · obtain ⟨m1, e1⟩ := I.base.tbls b ps e
    obtain ⟨m2, e2⟩ := tbls b _ e1
    exact ⟨m1 ++ m2, by rw [e2, Array.append_assoc]⟩
  · obtain ⟨m, hn, hl⟩ := I.loc
    refine ⟨m, ns m hn, fun i x v e1 e2 e3 => ?_⟩
    obtain ⟨u, r, l⟩ := hl i x v e1 e2 e3
    refine ⟨u, r, ?_⟩
    rcases l with l | ⟨k, c, e, z⟩
    · exact .inl l
    · exact .inr ⟨k, c, e, cellK x c e _ z⟩
  · obtain ⟨v, z⟩ := I.cell x c e
    exact ⟨v, cellK x c e v z⟩
  · obtain ⟨m, ⟨o, _, _, ho, _⟩, _⟩ := I.loc
    exact free _ o (fun z => (hch _ z).2.1 rfl) ho I.free
  · obtain ⟨v, o, ho, hd⟩ := I.cell x c e
    exact free c o (fun z => (hch c z).2.2.1 x c e rfl) ho (I.freeC x c e)
  · obtain ⟨e, n, ne, nf, d⟩ := I.pin p hp
    have nch : p.1 ∉ ch := fun z => (hch p.1 z).2.2.2 p hp rfl
    exact ⟨keep p.1 p.2 ne nf nch e n, free p.1 p.2 nch e n, ne, nf, d⟩
theorem Inv.un {t' : Nat} (I : Inv X pins σ H s) (u : Un X.fs [] H H' s.heap h') (hok : HOk X.prog X.w H' h') : Inv X pins σ H' { s with heap := h', toks := t' } := by
  obtain ⟨m, ⟨o, es, ep, ho, r⟩, _⟩ := id I.loc
  obtain ⟨sl, hL⟩ := u.any ho I.free (by simp)
  exact I.step (g' := s.gens) (d' := s.drawn) (ch := []) (fun _ z => nomatch z) (fun b o _ hb _ e n => u.keep b o e n hb (by simp)) (fun b o _ hb _ e n => u.slot b o e n hb (by simp)) (fun b o _ e n => u.free b o e n (by simp)) (fun b o _ e => u.there b o e (by simp)) u.tups u.frzs u.tbls (fun m' hm => by
    obtain ⟨o', es', ep', ho', r'⟩ := hm
    rw [ho] at ho'; cases ho'
    exact ⟨_, es', ep', hL, r'⟩) hok I.bare
theorem Inv.call {g' : Array GenState} {t' : Nat} {d' : Drawn} {ch : List Addr} (I : Inv X pins σ H s) (u : Un (frs X.stack) ch H H' s.heap h') (hok : HOk X.prog X.w H' h') (hg : AllBare g')
    (hch : ∀ b ∈ ch, (b ∈ X.ex ∨ X.s₀.heap.objs.size ≤ b) ∧ b ≠ X.env.locals ∧ (∀ x c, X.env.cells.lookup x = some c → c ≠ b) ∧ ∀ p ∈ X.pn ++ pins, p.1 ≠ b) :
    Inv X pins σ H' { s with heap := h', gens := g', drawn := d', toks := t' } := by
  obtain ⟨m, ⟨o, es, ep, ho, r⟩, _⟩ := id I.loc
  obtain ⟨sl, hL⟩ := u.any ho I.free fun z => (hch _ z).2.1 rfl
  exact I.step (ch := ch) hch (fun b o hL hb hc e n => u.keep b o e n (fun z => (List.mem_cons.mp (I.stkSub b z)).elim hL hb) hc) (fun b o _ _ hc e n => u.any e n hc) (fun b o hc e n => u.free b o e n hc) (fun b o hc e => u.there b o e hc) u.tups u.frzs u.tbls (fun m' hm => by
    obtain ⟨o', es', ep', ho', r'⟩ := hm
    rw [ho] at ho'; cases ho'
    exact ⟨_, es', ep', hL, r'⟩) hok hg
theorem Inv.turned {t' : Nat} {it : Addr} (I : Inv X pins σ H s) (k : ∀ b o, b ≠ it → s.heap.get? b = some o → h'.get? b = some o) (hn : H it = none) (hL : it ≠ X.env.locals)
    (h1 : it ∈ X.ex ∨ X.s₀.heap.objs.size ≤ it) (h2 : ∀ x c, X.env.cells.lookup x = some c → c ≠ it) (h3 : ∀ p ∈ X.pn ++ pins, p.1 ≠ it) : Inv X pins σ H { s with heap := h', toks := t' } := by
  have nit : ∀ b u, H b = some u → b ≠ it := fun b u e z => by rw [z, hn] at e; cases e
  refine I.step (g' := s.gens) (d' := s.drawn) (ch := [it]) (fun b hb => ?_) (fun b o _ _ hc e _ => k b o (fun z => hc (by simp [z])) e) (fun b o _ _ hc e _ => ⟨o.slots, k b o (fun z => hc (by simp [z])) e⟩) (fun _ _ _ _ n => n)
    (fun b o hc e => ⟨o, k b o (fun z => hc (by simp [z])) e⟩) (fun _ _ e => e) (fun _ _ _ e => e) (fun b ps e => ⟨#[], by rw [e]; simp⟩) (fun m hm => ?_) (fun b u e => ?_) I.bare
  · have e : b = it := by simpa using hb
    subst e
    exact ⟨h1, hL, h2, h3⟩
  · obtain ⟨o, es, ep, ho, r⟩ := hm
    exact ⟨o, es, ep, k _ o (Ne.symm hL) ho, r⟩
  · refine (I.hok b u e).stay (fun c v hc q => k c v ?_ q) (fun _ q => q) fun _ _ q => q
    rcases hc with z | z
    · rw [z]; exact nit b u e
    · exact nit c _ z
theorem Inv.tok (I : Inv X pins σ H s) (t : Nat) : Inv X pins σ H { s with toks := t } := I.un (h' := s.heap) (t' := t) Un.refl I.hok
theorem Inv.kept {t' : Nat} (I : Inv X pins σ H s) (k : ∀ b u, s.heap.get? b = some u → h'.get? b = some u) : Inv X pins σ H { s with heap := h', toks := t' } := I.un (Un.kept k) (I.hok.kept k)
theorem Inv.laid {a : Addr} {o : HO} {t' : Nat} (I : Inv X pins σ H s) (k : ∀ b u, s.heap.get? b = some u → h'.get? b = some u) (hp : s.heap.objs.size ≤ a) (new : ObjOk X.prog X.w (upd H a o) h' a o) :
    Inv X pins σ (upd H a o) { s with heap := h', toks := t' } := I.un (Un.laid k hp (I.hok.fresh hp)) (I.hok.laid k hp new)
theorem Inv.write {x e : Addr} {o : HO} {t' : Nat} (I : Inv X pins σ H s) (mu : Mut (H x)) (he : e = x ∨ H e = some (.own x)) (k : ∀ b u, b ≠ e → s.heap.get? b = some u → h'.get? b = some u) (heo : ∃ u, h'.get? e = some u)
    (new : ObjOk X.prog X.w (upd H x o) h' x o) : Inv X pins σ (upd H x o) { s with heap := h', toks := t' } := I.un (Un.write mu he k heo) (I.hok.write mu he k heo new)
theorem Inv.weak {σ' : List (Option V)} (I : Inv X pins σ H s) (hl : σ'.length = σ.length) (w : ∀ (i : Nat) v, σ'[i]? = some (some v) → σ[i]? = some (some v)) : Inv X pins σ' H s :=
  ⟨I.ok, I.os, I.bare, I.base, let ⟨m, hn, hl'⟩ := I.loc; ⟨m, hn, fun i x v e1 e2 e3 => hl' i x v e1 (w i v e2) e3⟩, I.cell, I.free, I.freeC, I.pin, I.hok, hl.trans I.len⟩
theorem Inv.pins_of {pins' : List (Addr × Obj)} (I : Inv X pins σ H s) (h : ∀ p ∈ pins', s.heap.get? p.1 = some p.2 ∧ H p.1 = none ∧ p.1 ≠ X.env.locals ∧ p.1 ∉ X.fs ∧ ∀ v, p.2.data ≠ .cell v) : Inv X pins' σ H s :=
  ⟨I.ok, I.os, I.bare, I.base, I.loc, I.cell, I.free, I.freeC, fun p hp => (List.mem_append.mp hp).elim (fun z => I.pin p (List.mem_append_left _ z)) (h p), I.hok, I.len⟩
theorem nodup_ix {N : List Str} (hN : N.Nodup) {i j : Nat} {x : Str} (a : N[i]? = some x) (b : N[j]? = some x) : i = j := by
  obtain ⟨h1, e1⟩ := List.getElem?_eq_some_iff.mp a
  obtain ⟨h2, e2⟩ := List.getElem?_eq_some_iff.mp b
  exact (List.getElem_inj hN).mp (e1.trans e2.symm)
theorem store_ok2 {M : Model} {A : Around} {E : Value → Shared → Prop} {i : Nat} {x : Str} {v : V} {u : Value} {Q : Unit → Shared → Prop} (I : Inv X pins σ H s) (hN : X.N.Nodup) (hi : X.N[i]? = some x) (hx : Loc X.env.scope x) (r : RelV v u)
    (h : ∀ s', Inv X pins (σ.set i (some v)) H s' → (∃ a, Heap.SameBut a s.heap s'.heap ∧ (a = X.env.locals ∨ X.env.cells.lookup x = some a)) → Q () s') (hf : X.fn x = true ∨ X.env.scope.names.lookup x = some .local := by first | exact .inl rfl | exact .inr rfl | assumption) : wpAny M A (storeName X.env x u) Q E s := by
  obtain ⟨m, hn, hl⟩ := id I.loc
  have hcls : (X.env.scope.kind == .class || (X.env.scope.kind == .module && X.env.locals != X.env.globals)) = false := by rw [I.ok.kind]; rfl
  have hiσ : i < σ.length := by rw [I.len]; exact (List.getElem?_eq_some_iff.mp hi).1
  have cne := I.cne
  have tracked : ∀ {a : Addr} {h' : Heap}, (∃ o, s.heap.get? a = some o ∧ H a = none) → Heap.SameBut a s.heap h' → HOk X.prog X.w H h' := fun {a h'} ha hs b ob e => by
    obtain ⟨_, _, hfree⟩ := ha
    refine (I.hok b ob e).stay (fun c w' hc q => (hs.2 c ?_).trans q) (fun _ q => q) fun _ _ q => q
    rintro rfl
    rcases hc with rfl | hc
    · rw [hfree] at e; cases e
    · rw [hfree] at hc; cases hc
  rcases hx with hk | hk
  · refine wpAny_storeName_local hk hn (fun h' hn' hs => ?_) hcls
    obtain ⟨oL, _, _, hoL, _⟩ := id hn
    refine h _ ⟨I.ok, I.os, I.bare, ⟨fun b o e n hb hx => ?_, fun b o e n hb hx => ?_, I.base.free, fun b o e hx => ?_, I.base.tups, I.base.frzs, I.base.tbls⟩, ⟨_, hn', fun j y v' e1 e2 e3 => ?_⟩, fun y c e => ?_, I.free, I.freeC, fun p hp => ?_, tracked ⟨oL, hoL, I.free⟩ hs, by simpa using I.len⟩ ⟨_, hs, .inl rfl⟩
    · exact (hs.2 b (Nat.ne_of_lt (Nat.lt_of_lt_of_le (Heap.lt_size e) I.ok.above))).trans (I.base.keep b o e n hb hx)
    · obtain ⟨sl, e1⟩ := I.base.slot b o e n hb hx
      exact ⟨sl, (hs.2 b (Nat.ne_of_lt (Nat.lt_of_lt_of_le (Heap.lt_size e) I.ok.above))).trans e1⟩
    · obtain ⟨o', e1⟩ := I.base.there b o e hx
      exact ⟨o', (hs.2 b (Nat.ne_of_lt (Nat.lt_of_lt_of_le (Heap.lt_size e) I.ok.above))).trans e1⟩
    · by_cases hj : j = i
      · subst hj
        rw [hi] at e1; cases e1
        rw [List.getElem?_set_self hiσ] at e2
        cases e2
        exact ⟨u, r, .inl ⟨hk, by simp⟩⟩
      · rw [List.getElem?_set_ne (Ne.symm hj)] at e2
        obtain ⟨u', r', q⟩ := hl j y v' e1 e2 e3
        refine ⟨u', r', ?_⟩
        rcases q with ⟨k, e⟩ | ⟨k, c, e, z⟩
        · refine .inl ⟨k, ?_⟩
          have : y ≠ x := fun e => hj (nodup_ix hN e1 (e ▸ hi))
          simp [this, e]
        · exact .inr ⟨k, c, e, z.sameBut hs (cne y c e)⟩
    · obtain ⟨w', z⟩ := I.cell y c e
      exact ⟨w', z.sameBut hs (cne y c e)⟩
    · obtain ⟨e, n, ne, nf, d⟩ := I.pin p hp
      exact ⟨(hs.2 p.1 ne).trans e, n, ne, nf, d⟩
  · have hfn : X.fn x = true := by
      rcases hf with z | z
      · exact z
      · rw [z] at hk; cases hk
    obtain ⟨c, hc⟩ := I.ok.has x (.inl hk)
    obtain ⟨w', z⟩ := I.cell x c hc
    refine wpAny_storeName_cell I.ok.kind hk hc z (fun h' hc' hs => ?_)
    obtain ⟨oc, hoc, hocd⟩ := id z
    refine h { s with heap := h' } ⟨I.ok, I.os, I.bare, ⟨fun b o e n hb hx => ?_, fun b o e n hb hx => ?_, I.base.free, fun b o e hx => ?_, I.base.tups, I.base.frzs, I.base.tbls⟩, ⟨m, hn.sameBut hs (Ne.symm (cne x c hc)), fun j y v' e1 e2 e3 => ?_⟩, fun y c' e => ?_, I.free, I.freeC, fun p hp => ?_, tracked ⟨oc, hoc, I.freeC x c hc⟩ hs, by simpa using I.len⟩ ⟨c, hs, .inr hc⟩
    · exact (hs.2 b (Nat.ne_of_lt (Nat.lt_of_lt_of_le (Heap.lt_size e) (I.ok.cab x c hfn hc)))).trans (I.base.keep b o e n hb hx)
    · obtain ⟨sl, e1⟩ := I.base.slot b o e n hb hx
      exact ⟨sl, (hs.2 b (Nat.ne_of_lt (Nat.lt_of_lt_of_le (Heap.lt_size e) (I.ok.cab x c hfn hc)))).trans e1⟩
    · obtain ⟨o', e1⟩ := I.base.there b o e hx
      exact ⟨o', (hs.2 b (Nat.ne_of_lt (Nat.lt_of_lt_of_le (Heap.lt_size e) (I.ok.cab x c hfn hc)))).trans e1⟩
    · by_cases hj : j = i
      · subst hj
        rw [hi] at e1; cases e1
        rw [List.getElem?_set_self hiσ] at e2
        cases e2
        exact ⟨u, r, .inr ⟨.inl hk, c, hc, hc'⟩⟩
      · rw [List.getElem?_set_ne (Ne.symm hj)] at e2
        obtain ⟨u', r', q⟩ := hl j y v' e1 e2 e3
        refine ⟨u', r', ?_⟩
        rcases q with q | ⟨k, c', e, z'⟩
        · exact .inl q
        · refine .inr ⟨k, c', e, z'.sameBut hs ?_⟩
          rintro rfl
          exact hj (nodup_ix hN e1 (I.ok.inj _ _ _ e hc ▸ hi))
    · by_cases hcc : c' = c
      · subst hcc; exact ⟨_, hc'⟩
      · obtain ⟨w2, z2⟩ := I.cell y c' e
        exact ⟨w2, z2.sameBut hs hcc⟩
    · obtain ⟨e, n, ne, nf, d⟩ := I.pin p hp
      refine ⟨(hs.2 p.1 ?_).trans e, n, ne, nf, d⟩
      intro q
      rw [q, hoc] at e
      have q' : oc = p.2 := Option.some.inj e
      exact d w' (by rw [← q']; exact hocd)
theorem store_ok {M : Model} {A : Around} {E : Value → Shared → Prop} {i : Nat} {x : Str} {v : V} {u : Value} {Q : Unit → Shared → Prop} (I : Inv X pins σ H s) (hN : X.N.Nodup) (hi : X.N[i]? = some x) (hx : Loc X.env.scope x) (r : RelV v u)
    (h : ∀ s', Inv X pins (σ.set i (some v)) H s' → Q () s') (hf : X.fn x = true ∨ X.env.scope.names.lookup x = some .local := by first | exact .inl rfl | exact .inr rfl | assumption) : wpAny M A (storeName X.env x u) Q E s :=
  store_ok2 I hN hi hx r (fun s' I' _ => h s' I') hf
theorem Inv.call' {s' : Shared} {ch : List Addr} (I : Inv X pins σ H s) (ho : s'.os = s.os) (u : Un (frs X.stack) ch H H' s.heap s'.heap) (hok : HOk X.prog X.w H' s'.heap) (hg : AllBare s'.gens)
    (hch : ∀ b ∈ ch, (b ∈ X.ex ∨ X.s₀.heap.objs.size ≤ b) ∧ b ≠ X.env.locals ∧ (∀ x c, X.env.cells.lookup x = some c → c ≠ b) ∧ ∀ p ∈ X.pn ++ pins, p.1 ≠ b) : Inv X pins σ H' s' := by
  obtain ⟨h', g', d', t', o'⟩ := s'
  have e : o' = s.os := ho
  subst e
  exact I.call (g' := g') (t' := t') (d' := d') u hok hg hch
end
abbrev XK := Value → Option Addr → Hp → Prop
abbrev St := List (Option V)
abbrev VK := V → Hp → Prop
abbrev TE := St → Hp → VK → Prop
abbrev TT := St → Hp → (Bool → Hp → Prop) → Prop
abbrev TA := St → Hp → (List V → Hp → Prop) → Prop
structure Ends where
  nx : St → Hp → Prop
  rt : VK
  bk : St → Hp → Prop := fun _ _ => False
  ct : St → Hp → Prop := fun _ _ => False
abbrev TS := Ends → St → Hp → Prop
def EP (X : Cx) (pins : List (Addr × Obj)) (σ : St) (Q : VK) (u : Value) (s' : Shared) : Prop := ∃ v H', Inv X pins σ H' s' ∧ RelV v u ∧ Q v H'
def TP (X : Cx) (pins : List (Addr × Obj)) (σ : St) (Q : Bool → Hp → Prop) (b : Bool) (s' : Shared) : Prop := ∃ H', Inv X pins σ H' s' ∧ Q b H'
def AP (X : Cx) (pins : List (Addr × Obj)) (σ : St) (Q : List V → Hp → Prop) (us : List Value) (s' : Shared) : Prop := ∃ vs H', Inv X pins σ H' s' ∧ Vals vs us ∧ Q vs H'
def SP (X : Cx) (pins : List (Addr × Obj)) (D : Ends) (f : Flow) (s' : Shared) : Prop :=
  match f with
  | .next => ∃ σ' H', Inv X pins σ' H' s' ∧ D.nx σ' H'
  | .brk => ∃ σ' H', Inv X pins σ' H' s' ∧ D.bk σ' H'
  | .cont => ∃ σ' H', Inv X pins σ' H' s' ∧ D.ct σ' H'
  | .ret u => ∃ v σ' H', Inv X pins σ' H' s' ∧ RelV v u ∧ D.rt v H'
def PE (X : Cx) (e : Expr) (t : TE) : Prop :=
  ∀ (pins : List (Addr × Obj)) (s : Shared) (σ : St) (H : Hp) (Q : VK), Inv X pins σ H s → t σ H Q → wpAny (model X.prog X.w) X.A (eval e X.env) (EP X pins σ Q) X.xe s
def PT (X : Cx) (e : Expr) (t : TT) : Prop :=
  ∀ (pins : List (Addr × Obj)) (s : Shared) (σ : St) (H : Hp) (Q : Bool → Hp → Prop), Inv X pins σ H s → t σ H Q → wpAny (model X.prog X.w) X.A (isTrue e X.env (eval e X.env)) (TP X pins σ Q) X.xe s
def PW (X : Cx) (e : Expr) (t : TT) : Prop :=
  ∀ (whole : Sem Value) (pins : List (Addr × Obj)) (s : Shared) (σ : St) (H : Hp) (Q : Bool → Hp → Prop), Inv X pins σ H s → t σ H Q → wpAny (model X.prog X.w) X.A (isTrue e X.env whole) (TP X pins σ Q) X.xe s
theorem PW.pt {X : Cx} {e : Expr} {t : TT} (h : PW X e t) : PT X e t := h _
def PA (X : Cx) (es : List Expr) (t : TA) : Prop :=
  ∀ (pos : Pos) (pins : List (Addr × Obj)) (s : Shared) (σ : St) (H : Hp) (Q : List V → Hp → Prop), Inv X pins σ H s → t σ H Q → wpAny (model X.prog X.w) X.A (spliced (backTo pos (starEach es X.env))) (AP X pins σ Q) X.xe s
def PS (X : Cx) (st : Stmt) (t : TS) : Prop :=
  ∀ (pins : List (Addr × Obj)) (s : Shared) (σ : St) (H : Hp) (D : Ends), Inv X pins σ H s → t D σ H → wpAny (model X.prog X.w) X.A (exec st X.env) (SP X pins D) X.xe s
def PSs (X : Cx) (st : List Stmt) (t : TS) : Prop :=
  ∀ (pins : List (Addr × Obj)) (s : Shared) (σ : St) (H : Hp) (D : Ends), Inv X pins σ H s → t D σ H → wpAny (model X.prog X.w) X.A (execs st X.env) (SP X pins D) X.xe s
theorem thn {α : Type} {t : Sem α} {Q Q' : α → Shared → Prop} {M : Model} {A : Around} {E : Value → Shared → Prop} {s : Shared} (h : wpAny M A t Q E s) (hQ : ∀ a s, Q a s → Q' a s) : wpAny M A t Q' E s := wpAny_mono h hQ fun _ _ x => x
end L2
namespace L2
open PySem PySem.Spec PyProof.Rows
section
variable {X : Cx}
theorem bin {a b : Expr} {ta tb : TE} (ha : PE X a ta) (hb : PE X b tb) {pins : List (Addr × Obj)} {s : Shared} {σ : St} {H : Hp} {R : V → V → Hp → Prop} (I : Inv X pins σ H s) (h : ta σ H fun x H1 => tb σ H1 fun y H2 => R x y H2)
    {α : Type} {Q : α → Shared → Prop} {f : Value → Value → Sem α}
    (hf : ∀ v u s2 x y H2, Inv X pins σ H2 s2 → RelV x v → RelV y u → R x y H2 → wpAny (model X.prog X.w) X.A (f v u) Q X.xe s2) :
    wpAny (model X.prog X.w) X.A (eval a X.env) (fun v s₁ => wpAny (model X.prog X.w) X.A (eval b X.env) (fun u s₂ => wpAny (model X.prog X.w) X.A (f v u) Q X.xe s₂) X.xe s₁) X.xe s := by
  refine thn (ha pins s σ H _ I h) fun v s1 ⟨x, H1, I1, r1, q1⟩ => ?_
  refine thn (hb pins s1 σ H1 _ I1 q1) fun u s2 ⟨y, H2, I2, r2, q2⟩ => ?_
  exact hf v u s2 x y H2 I2 r1 r2 q2
def tVar (i : Nat) : TE := fun σ H Q => ∃ v, σ[i]? = some (some v) ∧ Q v H
def tC (v : V) : TE := fun _ H Q => Q v H
theorem pe_var {i : Nat} {x : Str} {pos : Pos} (hN : X.N[i]? = some x) (hv : Vis X.env.scope x) (hd : (x == ("__debug__" : Str)) = false := by decide) (hcd : (x == ("__classdict__" : Str)) = false := by decide) : PE X (.Name x pos) (tVar i) := by
  intro pins s σ H Q I h
  obtain ⟨v, e, h⟩ := h
  obtain ⟨m, hn, hl⟩ := I.loc
  obtain ⟨u, r, l⟩ := hl i x v hN e hv
  have fin : EP X pins σ Q u s := ⟨v, H, I, r, h⟩
  rcases l with ⟨hk, hm⟩ | ⟨hk, c, hc, hcell⟩
  · exact wpAny_Name (wpAny_loadName_local I.ok.kind hk hn hm fin) hd
  · rcases hk with hk | hk
    · exact wpAny_Name (wpAny_loadName_cell I.ok.kind hk hc hcell fin) hd
    · exact wpAny_Name (wpAny_loadName_free I.ok.kind hk hc hcell fin hcd) hd
theorem pe_int {i j pos} : PE X (.Constant (.int i) j pos) (tC (.int i)) := fun _ _ _ H _ I h => wpAny_Constant_int ⟨.int i, H, I.tok _, ⟨_, rfl⟩, h⟩
theorem pe_bl {b j pos} : PE X (.Constant (.bool b) j pos) (tC (.bl b)) := fun _ _ _ H _ I h => Constant_bool ⟨.bl b, H, I, rfl, h⟩
theorem pe_non {j pos} : PE X (.Constant .none j pos) (tC .non) := fun _ _ _ H _ I h => Constant_none ⟨.non, H, I, rfl, h⟩
theorem pe_str {x j pos} : PE X (.Constant (.str x) j pos) (tC (.str x)) := fun _ _ _ H _ I h => Calls.Constant_str ⟨.str x, H, I.tok _, ⟨_, rfl⟩, h⟩
def Gl (X : Cx) (x : Str) : Prop := X.env.kindOf x = some .globalImplicit
theorem ld_glob {E : Value → Shared → Prop} {pins : List (Addr × Obj)} {s : Shared} {σ : St} {H : Hp} {x : Str} {u : Value} {pos : Pos} {Q : Value → Shared → Prop} (I : Inv X pins σ H s) (hg : Gl X x) (hm : X.mg x = some u) (h : Q u s)
    (hd : (x == ("__debug__" : Str)) = false := by decide) : wpAny (model X.prog X.w) X.A (eval (.Name x pos) X.env) Q E s :=
  Calls.Name_function_global I.ok.kind hg (Calls.loadGlobal_global (by rw [I.ok.glob]; exact I.mod.glob.keeps I.bk) hm h) hd
theorem ld_blt {E : Value → Shared → Prop} {pins : List (Addr × Obj)} {s : Shared} {σ : St} {H : Hp} {x : Str} {u : Value} {pos : Pos} {Q : Value → Shared → Prop} (I : Inv X pins σ H s) (hg : Gl X x) (hm : X.mg x = none) (hv : bootBuiltins x = some u) (h : Q u s)
    (hn : x ≠ "__name__" := by decide) (hd : (x == ("__debug__" : Str)) = false := by decide) : wpAny (model X.prog X.w) X.A (eval (.Name x pos) X.env) Q E s := by
  obtain ⟨mb, h1, h2⟩ := I.mod.blt
  exact Calls.Name_function_global I.ok.kind hg (Calls.loadGlobal_builtin (by rw [I.ok.glob]; exact I.mod.glob.keeps I.bk) hm (by rw [I.ok.blt]; exact h1.keeps I.bk) ((h2 x hn).trans hv) h) hd
theorem pe_glob {x : Str} {v : V} {u : Value} {pos : Pos} (hg : Gl X x) (hm : X.mg x = some u) (r : RelV v u) (hd : (x == ("__debug__" : Str)) = false := by decide) : PE X (.Name x pos) (tC v) :=
  fun _ _ _ H _ I h => ld_glob I hg hm ⟨v, H, I, r, h⟩ hd
theorem pe_bltn {x : Str} {v : V} {u : Value} {pos : Pos} (hg : Gl X x) (hm : X.mg x = none) (hv : bootBuiltins x = some u) (r : RelV v u) (hn : x ≠ "__name__" := by decide) (hd : (x == ("__debug__" : Str)) = false := by decide) : PE X (.Name x pos) (tC v) :=
  fun _ _ _ H _ I h => ld_blt I hg hm hv ⟨v, H, I, r, h⟩ hn hd
variable {a b : Expr} {ta tb : TE} {pos : Pos}
def PC (X : Cx) (op : CmpOp) (a b : Expr) (t : TE) : Prop :=
  ∀ (pins : List (Addr × Obj)) (s : Shared) (σ : St) (H : Hp) (Q : VK), Inv X pins σ H s → t σ H Q →
    wpAny (model X.prog X.w) X.A (eval a X.env) (fun v s₁ => wpAny (model X.prog X.w) X.A (eval b X.env) (fun u s₂ => wpAny (model X.prog X.w) X.A (compareOp op v u) (EP X pins σ Q) X.xe s₂) X.xe s₁) X.xe s
theorem nobehind (b : Expr) {op : CmpOp} (h : op ≠ .In) (h2 : op ≠ .NotIn) : behindInMarks op b = false := by
  have e1 : (op == CmpOp.In) = false := by cases op <;> first | rfl | exact absurd rfl h
  have e2 : (op == CmpOp.NotIn) = false := by cases op <;> first | rfl | exact absurd rfl h2
  cases b <;> simp [behindInMarks, e1, e2]
def tIsN (ta : TE) : TE := fun σ H Q => ta σ H fun x H1 => Q (.bl (decide (x = .non))) H1
theorem RelV.none_iff {x : V} {v : Value} (r : RelV x v) : (v == Value.none) = decide (x = .non) := by
  cases x with
  | non => cases r; rfl
  | bl _ => cases r; rfl
  | int _ => obtain ⟨t, rfl⟩ := r; rfl
  | str _ => obtain ⟨t, rfl⟩ := r; rfl
  | byt _ => obtain ⟨t, rfl⟩ := r; rfl
  | flt _ => obtain ⟨t, rfl⟩ := r; rfl
  | ref _ => cases r; rfl
  | ty _ => cases r; rfl
theorem pc_isN {j pos'} (ha : PE X a ta) : PC X .Is a (.Constant .none j pos') (tIsN ta) := by
  intro pins s σ H Q I h
  refine thn (ha pins s σ H _ I h) fun v s1 ⟨x, H1, I1, r1, q1⟩ => ?_
  exact Constant_none (is_none_gen ⟨.bl _, H1, I1, by rw [r1.none_iff]; rfl, q1⟩)
def tB (t : TE) : TT := fun σ H Q => t σ H fun x H1 => ∃ c, x = .bl c ∧ Q c H1
theorem pt_cmp {op : CmpOp} {t : TE} (h : PC X op a b t) (h1 : behindInMarks op b = false := by first | exact nobehind _ (by decide) (by decide) | rfl) : PT X (.Compare a [op] [b] pos) (tB t) := by
  intro pins s σ H Q I hw
  refine wpAny_isTrue_Compare1 (thn (h pins s σ H _ I hw) fun v s1 h1 => thn h1 fun u s2 h2 => thn h2 fun c s3 ⟨x, H1, I1, r1, q1⟩ => ?_) h1
  obtain ⟨d, rfl, q⟩ := q1
  cases r1
  exact wpAny_truthy_bool ⟨H1, I1, q⟩
theorem pt_val {e : Expr} {t : TE} (h : PE X e t) (he : ∀ whole, isTrue e X.env whole = (do let v ← whole; standAt e.pos; holding [v] (truthy v)) := by intro _; rfl) : PT X e (tB t) := by
  intro pins s σ H Q I hw
  refine isTrue_plain (thn (h pins s σ H _ I hw) fun v s1 ⟨x, H1, I1, r1, q1⟩ => ?_) (he _)
  obtain ⟨d, rfl, q⟩ := q1
  cases r1
  exact wpAny_truthy_bool ⟨H1, I1, q⟩
variable {tA tB' : TT} {rest : List Expr}
def tAnd (t u : TT) : TT := fun σ H Q => t σ H fun c H1 => if c = true then u σ H1 Q else Q false H1
def tOr (t u : TT) : TT := fun σ H Q => t σ H fun c H1 => if c = true then Q true H1 else u σ H1 Q
def tNot (t : TT) : TT := fun σ H Q => t σ H fun c H1 => Q (!c) H1
theorem pw_and1 (ha : PT X a tA) : PW X (.BoolOp .And [a] pos) tA := by
  intro wh pins s σ H Q I h
  refine isTrue_and (thn (ha pins s σ H Q I h) fun c s1 e => ?_)
  cases c with
  | true => exact isTrue_and_nil e
  | false => exact e
theorem pw_or1 (ha : PT X a tA) : PW X (.BoolOp .Or [a] pos) tA := by
  intro wh pins s σ H Q I h
  refine isTrue_or (thn (ha pins s σ H Q I h) fun c s1 e => ?_)
  cases c with
  | false => exact isTrue_or_nil e
  | true => exact e
theorem pw_and (ha : PT X a tA) (hb : PW X (.BoolOp .And (b :: rest) pos) tB') : PW X (.BoolOp .And (a :: b :: rest) pos) (tAnd tA tB') := by
  intro wh pins s σ H Q I h
  refine isTrue_and (thn (ha pins s σ H _ I h) fun c s1 ⟨H1, I1, q1⟩ => ?_)
  cases c with
  | true => exact hb wh pins s1 σ H1 Q I1 q1
  | false => exact ⟨H1, I1, q1⟩
theorem pw_or (ha : PT X a tA) (hb : PW X (.BoolOp .Or (b :: rest) pos) tB') : PW X (.BoolOp .Or (a :: b :: rest) pos) (tOr tA tB') := by
  intro wh pins s σ H Q I h
  refine isTrue_or (thn (ha pins s σ H _ I h) fun c s1 ⟨H1, I1, q1⟩ => ?_)
  cases c with
  | true => exact ⟨H1, I1, q1⟩
  | false => exact hb wh pins s1 σ H1 Q I1 q1
theorem pt_not (ha : PT X a tA) : PT X (.UnaryOp .Not a pos) (tNot tA) := by
  intro pins s σ H Q I h
  exact isTrue_not (ha pins s σ H (fun c H1 => Q (!c) H1) I h)
def tAndV (ta tb : TE) : TE := fun σ H Q => ta σ H fun x H1 => ∃ c, x = .bl c ∧ if c = true then tb σ H1 Q else Q (.bl false) H1
def tOrV (ta tb : TE) : TE := fun σ H Q => ta σ H fun x H1 => ∃ c, x = .bl c ∧ if c = true then Q (.bl true) H1 else tb σ H1 Q
theorem pe_one {op} {t : TE} (h : PE X a t) : PE X (.BoolOp op [a] pos) t := fun pins s σ H Q I hw => BoolOp_one (h pins s σ H Q I hw)
theorem pe_and (ha : PE X a ta) (hb : PE X (.BoolOp .And (b :: rest) pos) tb) : PE X (.BoolOp .And (a :: b :: rest) pos) (tAndV ta tb) := by
  intro pins s σ H Q I h
  refine BoolOp_and (thn (ha pins s σ H _ I h) fun v s1 ⟨x, H1, I1, r1, q1⟩ => ?_)
  obtain ⟨c, rfl, q1⟩ := q1
  cases r1
  refine wpAny_truthy_bool ?_
  cases c with
  | true => exact hb pins s1 σ H1 Q I1 q1
  | false => exact ⟨.bl false, H1, I1, rfl, q1⟩
theorem pe_or (ha : PE X a ta) (hb : PE X (.BoolOp .Or (b :: rest) pos) tb) : PE X (.BoolOp .Or (a :: b :: rest) pos) (tOrV ta tb) := by
  intro pins s σ H Q I h
  refine BoolOp_or (thn (ha pins s σ H _ I h) fun v s1 ⟨x, H1, I1, r1, q1⟩ => ?_)
  obtain ⟨c, rfl, q1⟩ := q1
  cases r1
  refine wpAny_truthy_bool ?_
  cases c with
  | false => exact hb pins s1 σ H1 Q I1 q1
  | true => exact ⟨.bl true, H1, I1, rfl, q1⟩
def tIf (t : TT) (ta tb : TE) : TE := fun σ H Q => t σ H fun c H1 => if c = true then ta σ H1 Q else tb σ H1 Q
theorem pe_ifExp {c : Expr} (hc : PT X c tA) (ha : PE X a ta) (hb : PE X b tb) : PE X (.IfExp c a b pos) (tIf tA ta tb) := by
  intro pins s σ H Q I h
  refine wpAny_IfExp (thn (hc pins s σ H _ I h) fun d s1 ⟨H1, I1, q1⟩ => ?_)
  cases d with
  | true => exact ha pins s1 σ H1 Q I1 q1
  | false => exact hb pins s1 σ H1 Q I1 q1
end
end L2
namespace L2
open PySem PySem.Spec PyProof.Rows
def SqL (K : PySem.W.Frag) (H : Hp) (a : Addr) (xs : List V) : Prop :=
  Rd H a (.lst xs) ∨
    ∃ (o : Obj) (its : Array Value) (n : Nat), K.lookup a = some o ∧ o.cls = .type "list" ∧ o.dict = none ∧ o.data = .seq its n ∧ its.size ≤ sizeLine ∧ Vals xs its.toList
def SqT (K : PySem.W.Frag) (H : Hp) (a : Addr) (xs : List V) : Prop :=
  Rd H a (.tup xs) ∨
    ∃ (o : Obj) (its : Array Value) (n : Nat), K.lookup a = some o ∧ o.cls = .type "tuple" ∧ o.data = .seq its n ∧ its.size ≤ sizeLine ∧ Vals xs its.toList
def absV : Value → Option V
  | .none => some .non
  | .bool b => some (.bl b)
  | .int i _ => some (.int i)
  | .str x _ => some (.str x)
  | .bytes b _ => some (.byt b)
  | .float b _ => some (.flt b)
  | .ref a => some (.ref a)
  | .type n => some (.ty n)
  | _ => none
theorem RelV.abs {x : V} {u : Value} (r : RelV x u) : absV u = some x := by
  cases x with
  | non => cases r; rfl
  | bl _ => cases r; rfl
  | int _ => obtain ⟨t, rfl⟩ := r; rfl
  | str _ => obtain ⟨t, rfl⟩ := r; rfl
  | byt _ => obtain ⟨t, rfl⟩ := r; rfl
  | flt _ => obtain ⟨t, rfl⟩ := r; rfl
  | ref _ => cases r; rfl
  | ty _ => cases r; rfl
theorem RelV.inj {x y : V} {u : Value} (r : RelV x u) (q : RelV y u) : x = y := Option.some.inj (r.abs.symm.trans q.abs)
theorem Vals.inj : ∀ {xs ys : List V} {us : List Value}, Vals xs us → Vals ys us → xs = ys
  | _, _, _, .nil, .nil => rfl
  | _, _, _, .cons r t, .cons r' t' => by rw [r.inj r', Vals.inj t t']
section
variable {X : Cx} {pins : List (Addr × Obj)} {σ : St} {H : Hp} {s : Shared} {a : Addr} {xs ys : List V}
theorem SqL.of {K : PySem.W.Frag} (h : H a = some (.lst xs)) : SqL K H a xs := .inl (.inl h)
theorem SqT.of {K : PySem.W.Frag} (h : H a = some (.tup xs)) : SqT K H a xs := .inl (.inl h)
theorem Inv.list (I : Inv X pins σ H s) (h : SqL X.K H a xs) : ∃ its : List Value, Vals xs its ∧ PlainL s.heap a its.toArray ∧ xs.length ≤ sizeLine := by
  rcases h with h | ⟨o, its, n, hk, hc, hd, hs, hz, r⟩
  · obtain ⟨z, its, n, r, e⟩ := h.ok I.hok
    exact ⟨its, r, ⟨_, n, e, rfl, rfl, rfl⟩, z⟩
  · refine ⟨its.toList, r, ⟨o, n, I.kIn a o hk, hc, hd, by simpa using hs⟩, ?_⟩
    have e := r.length
    simp only [Array.length_toList] at e
    omega
theorem Inv.tuple (I : Inv X pins σ H s) (h : SqT X.K H a xs) : ∃ its : List Value, Vals xs its ∧ IsTup s.heap a its.toArray ∧ xs.length ≤ sizeLine := by
  rcases h with h | ⟨o, its, n, hk, hc, hs, hz, r⟩
  · obtain ⟨z, its, r, p⟩ := h.ok I.hok
    exact ⟨its, r, p, z⟩
  · refine ⟨its.toList, r, ⟨o, I.kIn a o hk, hc, n, by simpa using hs⟩, ?_⟩
    have e := r.length
    simp only [Array.length_toList] at e
    omega
theorem Inv.list_inj (I : Inv X pins σ H s) (h : SqL X.K H a xs) (h' : SqL X.K H a ys) : xs = ys := by
  obtain ⟨its, r, ⟨o, n, e, _, _, d⟩, _⟩ := I.list h
  obtain ⟨its', r', ⟨o', n', e', _, _, d'⟩, _⟩ := I.list h'
  rw [e] at e'; cases e'
  rw [d] at d'
  injection d' with d1 _
  have : its = its' := by simpa using congrArg Array.toList d1
  subst this
  exact r.inj r'
theorem Inv.tuple_inj (I : Inv X pins σ H s) (h : SqT X.K H a xs) (h' : SqT X.K H a ys) : xs = ys := by
  obtain ⟨its, r, ⟨o, e, _, n, d⟩, _⟩ := I.tuple h
  obtain ⟨its', r', ⟨o', e', _, n', d'⟩, _⟩ := I.tuple h'
  rw [e] at e'; cases e'
  rw [d] at d'
  injection d' with d1 _
  have : its = its' := by simpa using congrArg Array.toList d1
  subst this
  exact r.inj r'
end
abbrev Cx.wish (X : Cx) (E : Value → Shared → Prop) : Cx := { X with xe := E }
abbrev Cx.nox (X : Cx) : Cx := X.wish fun _ _ => False
theorem Cx.Ok.wish {X : Cx} (ok : X.Ok) (E : Value → Shared → Prop) : (X.wish E).Ok :=
  ⟨ok.mod, ok.kind, ok.glob, ok.blt, ok.above, ok.inj, ok.has, ok.cab, ok.hd, ok.frames, ok.stk, ok.exf, ok.bs, ok.bsz, ok.noex, ok.exfs, ok.funs, ok.frf⟩
theorem Cx.Ok.unwish {X : Cx} {E : Value → Shared → Prop} (ok : (X.wish E).Ok) : X.Ok :=
  ⟨ok.mod, ok.kind, ok.glob, ok.blt, ok.above, ok.inj, ok.has, ok.cab, ok.hd, ok.frames, ok.stk, ok.exf, ok.bs, ok.bsz, ok.noex, ok.exfs, ok.funs, ok.frf⟩
section
variable {X : Cx} {pins : List (Addr × Obj)} {σ : St} {H : Hp} {s : Shared} {E : Value → Shared → Prop}
theorem Inv.wish (I : Inv X pins σ H s) (E : Value → Shared → Prop) : Inv (X.wish E) pins σ H s := ⟨I.ok.wish E, I.os, I.bare, I.base, I.loc, I.cell, I.free, I.freeC, I.pin, I.hok, I.len⟩
theorem Inv.unwish (I : Inv (X.wish E) pins σ H s) : Inv X pins σ H s := ⟨I.ok.unwish, I.os, I.bare, I.base, I.loc, I.cell, I.free, I.freeC, I.pin, I.hok, I.len⟩
theorem SP.unwish {D : Ends} {f : Flow} {s' : Shared} (h : SP (X.wish E) pins D f s') : SP X pins D f s' := by
  cases f with
  | next => obtain ⟨σ', H', I, q⟩ := h; exact ⟨σ', H', I.unwish, q⟩
  | brk => obtain ⟨σ', H', I, q⟩ := h; exact ⟨σ', H', I.unwish, q⟩
  | cont => obtain ⟨σ', H', I, q⟩ := h; exact ⟨σ', H', I.unwish, q⟩
  | ret u => obtain ⟨v, σ', H', I, r, q⟩ := h; exact ⟨v, σ', H', I.unwish, r, q⟩
theorem PE.nox {e : Expr} {t : TE} (h : PE X.nox e t) : PE X e t := fun pins s σ H Q I hw =>
  wpAny_mono (h pins s σ H Q (I.wish _) hw) (fun _ _ ⟨v, H', I', r, q⟩ => ⟨v, H', I'.unwish, r, q⟩) fun _ _ z => False.elim z
theorem PT.nox {e : Expr} {t : TT} (h : PT X.nox e t) : PT X e t := fun pins s σ H Q I hw =>
  wpAny_mono (h pins s σ H Q (I.wish _) hw) (fun _ _ ⟨H', I', q⟩ => ⟨H', I'.unwish, q⟩) fun _ _ z => False.elim z
theorem PSs.nox {st : List Stmt} {t : TS} (h : PSs X.nox st t) : PSs X st t := fun pins s σ H D I hw =>
  wpAny_mono (h pins s σ H D (I.wish _) hw) (fun _ _ q => q.unwish) fun _ _ z => False.elim z
end
section
variable {X : Cx} {st : Stmt} {rest : List Stmt} {t u : TS} {e : Expr} {te : TE} {pos : Pos}
def tNext : TS := fun D σ H => D.nx σ H
def tSeq (t u : TS) : TS := fun D σ H => t { D with nx := u D } σ H
theorem pss_nil : PSs X [] tNext := fun _ _ σ H _ I h => wpAny_execs_nil ⟨σ, H, I, h⟩
theorem pss_cons (h1 : PS X st t) (h2 : PSs X rest u) : PSs X (st :: rest) (tSeq t u) := by
  intro pins s σ H D I h
  refine wpAny_execs_cons (thn (h1 pins s σ H { D with nx := u D } I h) fun f s1 q => ?_)
  cases f with
  | next =>
    obtain ⟨σ', H', I', q⟩ := q
    exact h2 pins s1 σ' H' D I' q
  | ret v => exact q
  | brk => exact q
  | cont => exact q
theorem pss_one (h1 : PS X st t) : PSs X [st] t := by
  intro pins s σ H D I h
  refine wpAny_execs_cons (thn (h1 pins s σ H D I h) fun f s1 q => ?_)
  cases f with
  | next => exact wpAny_execs_nil q
  | ret v => exact q
  | brk => exact q
  | cont => exact q
theorem Inv.quiet {pins : List (Addr × Obj)} {σ : St} {H : Hp} {s : Shared} (I : Inv X pins σ H s) : interactive X.env = false := by simp [interactive, I.ok.kind]
def tDrop (te : TE) : TS := fun D σ H => te σ H fun _ H1 => D.nx σ H1
theorem ps_expr (he : PE X e te) (hs : swapsWith e none pos.line X.env = pure false := by rfl) : PS X (.Expr e pos) (tDrop te) := by
  intro pins s σ H D I h
  exact wpAny_Expr_any (thn (he pins s σ H _ I h) fun v s1 ⟨x, H1, I1, r1, q1⟩ => ⟨σ, H1, I1, q1⟩) I.quiet hs
def tRet (te : TE) : TS := fun D σ H => te σ H D.rt
theorem ps_ret (he : PE X e te) : PS X (.Return (some e) pos) (tRet te) := by
  intro pins s σ H D I h
  exact wpAny_Return_some (thn (he pins s σ H _ I h) fun v s1 ⟨x, H1, I1, r1, q1⟩ => ⟨x, σ, H1, I1, r1, q1⟩)
def tIfS (c : TT) (t u : TS) : TS := fun D σ H => c σ H fun b H1 => if b = true then t D σ H1 else u D σ H1
theorem ps_if {c : Expr} {a b : List Stmt} {tc : TT} (hc : PT X c tc) (ha : PSs X a t) (hb : PSs X b u) : PS X (.If c a b pos) (tIfS tc t u) := by
  intro pins s σ H D I h
  refine wpAny_If (thn (hc pins s σ H _ I h) fun d s1 ⟨H1, I1, q1⟩ => ?_)
  cases d with
  | true => exact ha pins s1 σ H1 D I1 q1
  | false => exact hb pins s1 σ H1 D I1 q1
end
abbrev TG := V → St → Hp → (St → Hp → Prop) → Prop
abbrev TGs := List V → St → Hp → (St → Hp → Prop) → Prop
def PG (X : Cx) (target : Expr) (t : TG) : Prop :=
  ∀ (pins : List (Addr × Obj)) (s : Shared) (σ : St) (H : Hp) (v : V) (u : Value) (Q : St → Hp → Prop), Inv X pins σ H s → RelV v u → t v σ H Q →
    wpAny (model X.prog X.w) X.A (assign target X.env u) (fun _ s' => ∃ σ' H', Inv X pins σ' H' s' ∧ Q σ' H') X.xe s
def PGs (X : Cx) (ts : List Expr) (t : TGs) : Prop :=
  ∀ (pins : List (Addr × Obj)) (s : Shared) (σ : St) (H : Hp) (vs : List V) (us : List Value) (Q : St → Hp → Prop), Inv X pins σ H s → Vals vs us → t vs σ H Q →
    wpAny (model X.prog X.w) X.A (assignInOrder ((assignEach ts X.env).map (·.2)) us) (fun _ s' => ∃ σ' H', Inv X pins σ' H' s' ∧ Q σ' H') X.xe s
abbrev TSet := V → V → V → Hp → (Hp → Prop) → Prop
def PSet (X : Cx) (t : TSet) : Prop :=
  ∀ (pins : List (Addr × Obj)) (s : Shared) (σ : St) (H : Hp) (o i v : V) (ov iv u : Value) (Q : Hp → Prop), Inv X pins σ H s → RelV o ov → RelV i iv → RelV v u → t o i v H Q →
    wpAny (model X.prog X.w) X.A (setItem ov iv u) (fun _ s' => ∃ H', Inv X pins σ H' s' ∧ Q H') X.xe s
section
variable {X : Cx} {pos : Pos}
def gName (i : Nat) : TG := fun v σ H Q => Q (σ.set i (some v)) H
theorem pg_name {i : Nat} {x : Str} (hN : X.N.Nodup) (hi : X.N[i]? = some x) (hx : Loc X.env.scope x) (hf : X.fn x = true ∨ X.env.scope.names.lookup x = some .local := by first | exact .inl rfl | exact .inr rfl | assumption) : PG X (.Name x pos) (gName i) := by
  intro pins s σ H v u Q I r h
  exact wpAny_assign_Name (store_ok I hN hi hx r (fun s' I' => ⟨_, H, I', h⟩) hf)
def gNil : TGs := fun vs σ H Q => vs = [] ∧ Q σ H
def gCons (t : TG) (u : TGs) : TGs := fun vs σ H Q => ∃ v r, vs = v :: r ∧ t v σ H fun σ' H' => u r σ' H' Q
theorem pgs_nil : PGs X [] gNil := by
  intro pins s σ H vs us Q I r h
  obtain ⟨e, h⟩ := h
  subst e
  cases r
  exact assignInOrder_nil ⟨σ, H, I, h⟩
theorem pgs_cons {e : Expr} {es : List Expr} {t : TG} {u : TGs} (h1 : PG X e t) (h2 : PGs X es u)
    (hs : (assignEach (e :: es) X.env).map (·.2) = assign e X.env :: (assignEach es X.env).map (·.2) := by rfl) : PGs X (e :: es) (gCons t u) := by
  intro pins s σ H vs us Q I r h
  obtain ⟨v, vr, e1, h⟩ := h
  subst e1
  cases r with
  | cons r rr =>
    rw [hs]
    refine assignInOrder_cons (thn (h1 pins s σ H _ _ _ I r h) fun _ s1 ⟨σ1, H1, I1, q1⟩ => ?_)
    exact h2 pins s1 σ1 H1 _ _ Q I1 rr q1
def gTup (K : PySem.W.Frag) (n : Nat) (t : TGs) : TG := fun v σ H Q => ∃ a xs, v = .ref a ∧ SqT K H a xs ∧ xs.length = n ∧ t xs σ H Q
theorem pg_tup {es : List Expr} {k : Nat} {t : TGs} {n : Nat} (hc : X.calm = true) (h : PGs X es t)
    (hn : (assignEach es X.env).length = n := by rfl) (hst : (assignEach es X.env).findIdx? (·.1) = none := by rfl) : PG X (.Tuple es k pos) (gTup X.K n t) := by
  intro pins s σ H v u Q I r hw
  obtain ⟨a, xs, e1, hq, hl, hw⟩ := hw
  subst e1
  cases r
  obtain ⟨its, rv, ht, hz⟩ := I.tuple hq
  refine assign_Tuple_tuple (I.ok.hd hc) ht (by simp [hn, ← hl, rv.length]) hst fun h' hx => ?_
  have I1 : Inv X pins σ H { s with heap := h' } := I.kept (t' := s.toks) fun b o e => hx b o (Nat.ne_of_lt (Heap.lt_size e)) e
  exact h pins _ σ H xs _ Q I1 (by simpa using rv) hw
def gSub (to ti : TE) (t : TSet) : TG := fun v σ H Q => to σ H fun o H1 => ti σ H1 fun i H2 => t o i v H2 fun H3 => Q σ H3
theorem pg_sub {o i : Expr} {to ti : TE} {t : TSet} (ho : PE X o to) (hi : PE X i ti) (hs : PSet X t)
    (ha : ∀ v, assign (.Subscript o i pos) X.env v = (do
      let ov ← holding [v] (eval o X.env)
      let iv ← holding [v, ov] (eval i X.env)
      standAt pos
      holding [v, ov, iv] (setItem ov iv v)
      release [v, ov, iv] []) := by intro _; rfl) : PG X (.Subscript o i pos) (gSub to ti t) := by
  intro pins s σ H v u Q I r h
  rw [ha]
  refine wpAny_bind (wpAny_holding (thn (ho pins s σ H _ I h) fun ov s1 ⟨x, H1, I1, r1, q1⟩ => ?_))
  refine wpAny_bind (wpAny_holding (thn (hi pins s1 σ H1 _ I1 q1) fun iv s2 ⟨y, H2, I2, r2, q2⟩ => ?_))
  refine wpAny_bind (wpAny_standAt (wpAny_bind (wpAny_holding (thn (hs pins s2 σ H2 x y v ov iv u _ I2 r1 r2 r q2) fun _ s3 ⟨H3, I3, q3⟩ => ?_))))
  exact wpAny_release ⟨σ, H3, I3, q3⟩
def tAsg (te : TE) (g : TG) : TS := fun D σ H => te σ H fun x H1 => g x σ H1 D.nx
theorem ps_asg {tg e : Expr} {te : TE} {g : TG} (he : PE X e te) (hg : PG X tg g) (hs : swapsWithSole [tg] e pos.line X.env = pure false := by rfl) (hw : swappedStores [tg] e X.env = pure none := by rfl)
    (h1 : (assignEach [tg] X.env).map (·.2) = [assign tg X.env] := by rfl) : PS X (.Assign [tg] e pos) (tAsg te g) := by
  intro pins s σ H D I h
  refine wpAny_Assign_stores (thn (he pins s σ H _ I h) fun v s1 ⟨x, H1, I1, r1, q1⟩ => ?_) hs hw
  rw [h1]
  exact thn (hg pins s1 σ H1 x v _ I1 r1 q1) fun _ s2 q => q
theorem ps_set {i : Nat} {x : Str} {e : Expr} {te : TE} {pos' : Pos} (hN : X.N.Nodup) (hi : X.N[i]? = some x) (hx : Loc X.env.scope x) (he : PE X e te) (hs : swapsWith e (some (.Name x pos')) pos.line X.env = pure false := by rfl) (hf : X.fn x = true ∨ X.env.scope.names.lookup x = some .local := by first | exact .inl rfl | exact .inr rfl | assumption) :
    PS X (.Assign [.Name x pos'] e pos) (tAsg te (gName i)) := by
  intro pins s σ H D I h
  refine wpAny_Assign_Name (thn (he pins s σ H _ I h) fun v s1 ⟨y, H1, I1, r1, q1⟩ => ?_) hs
  exact store_ok I1 hN hi hx r1 (fun s2 I2 => ⟨_, H1, I2, q1⟩) hf
end
section
variable {X : Cx} {pos : Pos}
end
structure It where
  go : Nat → Hp → Prop
  yld : Nat → Hp → V → Hp → Prop
  stop : Nat → Hp → Prop
def FpOk (X : Cx) (pins : List (Addr × Obj)) (H : Hp) (b : Addr) : Prop :=
  H b = none ∧ b ≠ X.env.locals ∧ b ∉ X.fs ∧ (b ∈ X.ex ∨ X.s₀.heap.objs.size ≤ b) ∧ (∀ x c, X.env.cells.lookup x = some c → c ≠ b) ∧ ∀ p ∈ X.pn ++ pins, p.1 ≠ b
theorem Inv.fpOk {X : Cx} {pins : List (Addr × Obj)} {σ : St} {H H' : Hp} {s : Shared} {b : Addr} (I : Inv X pins σ H s) (hb : s.heap.objs.size ≤ b) (hn : H' b = none) : FpOk X pins H' b := by
  refine ⟨hn, Nat.ne_of_gt (Nat.lt_of_lt_of_le I.lt hb), I.nofs hb, .inr (Nat.le_trans I.sz hb), fun x c e z => ?_, fun p hp z => ?_⟩
  · obtain ⟨v, q⟩ := I.cell x c e
    exact absurd (Nat.lt_of_lt_of_le q.lt (by rw [z]; exact hb)) (Nat.lt_irrefl _)
  · exact absurd (Nat.lt_of_lt_of_le (Heap.lt_size (I.pin p hp).1) (by rw [z]; exact hb)) (Nat.lt_irrefl _)
structure Turn (P : Program) (w : World) (K : PySem.W.Frag) (tg : Expr) (J : It) (fp : List Addr) (it : Addr) (tn : Nat → Heap → Prop) : Prop where
  mem : it ∈ fp
  obj : ∀ i h, tn i h → ∀ b ∈ fp, ∃ o, h.get? b = some o ∧ ∀ v, o.data ≠ .cell v
  keep : ∀ i h h', tn i h → (∀ b ∈ fp, ∀ o, h.get? b = some o → h'.get? b = some o) → tn i h'
  item : ∀ (X : Cx), X.prog = P → X.w = w → X.K = K → X.calm = true → ∀ (i : Nat) (pins : List (Addr × Obj)) (s : Shared) (σ : St) (H : Hp) (E : Value → Shared → Prop), Inv X pins σ H s → (∀ b ∈ fp, FpOk X pins H b) → tn i s.heap → J.go i H →
    wpAny (model P w) X.A (pyNext (.ref it)) (fun r s1 => ∃ u, r = some u ∧
      wpAny (model P w) X.A (letOwnedTupleGo tg (.ref it) u) (fun _ s2 => ∃ x H', Inv X pins σ H' s2 ∧ RelV x u ∧ J.yld i H x H' ∧ tn (i + 1) s2.heap ∧ ∀ b ∈ fp, H' b = none) E s1) E s
  done : ∀ (X : Cx), X.prog = P → X.w = w → X.K = K → X.calm = true → ∀ (i : Nat) (pins : List (Addr × Obj)) (s : Shared) (σ : St) (H : Hp) (E : Value → Shared → Prop), Inv X pins σ H s → (∀ b ∈ fp, FpOk X pins H b) → tn i s.heap → J.stop i H →
    wpAny (model P w) X.A (pyNext (.ref it)) (fun r s1 => r = none ∧ Inv X pins σ H s1) E s
  self : ∀ (A : Around) (i : Nat) (s : Shared) (Q : Value → Shared → Prop) (E : Value → Shared → Prop), tn i s.heap → Q (.ref it) s → wpAny (model P w) A (pyIter (.ref it)) Q E s
abbrev TI := St → Hp → (It → Hp → Prop) → Prop
def PIE (X : Cx) (pins : List (Addr × Obj)) (σ : St) (tg : Expr) (R : It → Hp → Prop) (itv : Value) (s2 : Shared) : Prop :=
  ∃ (it : Addr) (fp : List Addr) (tn : Nat → Heap → Prop) (J : It) (H' : Hp), itv = .ref it ∧ Inv X pins σ H' s2 ∧ Turn X.prog X.w X.K tg J fp it tn ∧ tn 0 s2.heap ∧ (∀ b ∈ fp, FpOk X pins H' b) ∧ R J H'
def PI (X : Cx) (tg iter : Expr) (wi : TI) : Prop :=
  ∀ (pins : List (Addr × Obj)) (s : Shared) (σ : St) (H : Hp) (R : It → Hp → Prop), Inv X pins σ H s → wi σ H R →
    wpAny (model X.prog X.w) X.A (eval iter X.env) (fun v s1 => wpAny (model X.prog X.w) X.A (pyIter v) (PIE X pins σ tg R) X.xe s1) X.xe s
theorem go_of {M : Model} {A : Around} {E : Value → Shared → Prop} {s : Shared} {tg : Expr} {it : Addr} {u : Value} {o : Obj} {n : String} {vs : Array Value} {Q : Unit → Shared → Prop} (ho : s.heap.get? it = some o) (hc : o.cls = .type n) (hd : o.data = .fields vs)
    (hn : ["enumerate", "zip", "dict_itemiterator", "dict_reverseitemiterator", "odict_iterator", "itertools.zip_longest", "itertools.pairwise"].contains n = false) (hQ : Q () s) : wpAny M A (letOwnedTupleGo tg (.ref it) u) Q E s := by
  unfold letOwnedTupleGo
  cases tg <;> first
    | exact wpAny_pure hQ
    | (cases u <;> first
        | exact wpAny_pure hQ
        | (refine wpAny_bind (wpAny_load ho ?_)
           rw [hc, hd]
           show wpAny M A (if (["enumerate", "zip", "dict_itemiterator", "dict_reverseitemiterator", "odict_iterator", "itertools.zip_longest", "itertools.pairwise"].contains n && vs[0]? == some (rawInt _)) = true then _ else _) Q E s
           rw [if_neg (by intro h; rw [hn, Bool.false_and] at h; cases h)]
           exact wpAny_pure hQ))
def Itl (K : PySem.W.Frag) (a : Addr) : It :=
  ⟨fun i H => ∃ xs x, SqL K H a xs ∧ xs[i]? = some x, fun i H x H' => H' = H ∧ ∀ xs, SqL K H a xs → xs[i]? = some x, fun i H => ∃ xs, SqL K H a xs ∧ xs.length ≤ i⟩
def Itt (K : PySem.W.Frag) (a : Addr) : It :=
  ⟨fun i H => ∃ xs x, SqT K H a xs ∧ xs[i]? = some x, fun i H x H' => H' = H ∧ ∀ xs, SqT K H a xs → xs[i]? = some x, fun i H => ∃ xs, SqT K H a xs ∧ xs.length ≤ i⟩
def Itr (lo : Int) (n : Nat) : It := ⟨fun i _ => i < n, fun i H x H' => H' = H ∧ x = .int (lo + i), fun i _ => n ≤ i⟩
theorem turn_list {P : Program} {w : World} {K : PySem.W.Frag} {tg : Expr} (a it : Addr) : Turn P w K tg (Itl K a) [it] it (fun i h => h.IsListIter it a i) where
  mem := by simp
  obj := fun i h st b hb => by
    have e : b = it := by simpa using hb
    subst e
    obtain ⟨o, e, c, d⟩ := st
    exact ⟨o, e, fun v z => by rw [d] at z; cases z⟩
  keep := fun i h h' st k => st.at fun o e => k it (by simp) o e
  item := by
    intro X hP hw hK hc i pins s σ H E I hf st hg
    subst hP hw hK
    obtain ⟨xs, x, hq, hx⟩ := hg
    obtain ⟨its, rv, p, hz⟩ := I.list hq
    obtain ⟨u, hu, ru⟩ := rv.get hx
    obtain ⟨f0, f1, f2, f3, f4, f5⟩ := hf it (by simp)
    refine wpAny_pyNext_list_item st p.isList (x := u) (by simpa using hu) fun h' st' sb => ?_
    have I1 : Inv X pins σ H { s with heap := h' } := I.turned (t' := s.toks) (fun b o hb e => (sb.2 b hb).trans e) f0 f1 f3 f4 f5
    obtain ⟨o, e, c, d⟩ := id st'
    exact ⟨u, rfl, go_of (s := { s with heap := h' }) e c d (by decide) ⟨x, H, I1, ru, ⟨rfl, fun ys hy => by rw [I.list_inj hy hq]; exact hx⟩, st', fun b hb => (hf b hb).1⟩⟩
  done := by
    intro X hP hw hK hc i pins s σ H E I hf st hg
    subst hP hw hK
    obtain ⟨xs, hq, hx⟩ := hg
    obtain ⟨its, rv, p, hz⟩ := I.list hq
    obtain ⟨f0, f1, f2, f3, f4, f5⟩ := hf it (by simp)
    have hl := rv.length
    exact wpAny_pyNext_list_end (I.ok.hd hc) st p.isList (by simp; omega) fun h' eb => ⟨rfl, I.turned (t' := s.toks) (fun b o hb e => eb b o hb e) f0 f1 f3 f4 f5⟩
  self := fun _ _ _ _ _ st h => wpAny_pyIter_listiter st h
theorem turn_tuple {P : Program} {w : World} {K : PySem.W.Frag} {tg : Expr} (a it : Addr) : Turn P w K tg (Itt K a) [it] it (fun i h => h.IsTupleIter it a i) where
  mem := by simp
  obj := fun i h st b hb => by
    have e : b = it := by simpa using hb
    subst e
    obtain ⟨o, e, c, d⟩ := st
    exact ⟨o, e, fun v z => by rw [d] at z; cases z⟩
  keep := fun i h h' st k => st.at fun o e => k it (by simp) o e
  item := by
    intro X hP hw hK hc i pins s σ H E I hf st hg
    subst hP hw hK
    obtain ⟨xs, x, hq, hx⟩ := hg
    obtain ⟨its, rv, p, hz⟩ := I.tuple hq
    obtain ⟨u, hu, ru⟩ := rv.get hx
    obtain ⟨f0, f1, f2, f3, f4, f5⟩ := hf it (by simp)
    refine wpAny_pyNext_tuple_item st (show s.heap.IsTuple a its.toArray from p) (x := u) (by simpa using hu) fun h' st' sb => ?_
    have I1 : Inv X pins σ H { s with heap := h' } := I.turned (t' := s.toks) (fun b o hb e => (sb.2 b hb).trans e) f0 f1 f3 f4 f5
    obtain ⟨o, e, c, d⟩ := id st'
    exact ⟨u, rfl, go_of (s := { s with heap := h' }) e c d (by decide) ⟨x, H, I1, ru, ⟨rfl, fun ys hy => by rw [I.tuple_inj hy hq]; exact hx⟩, st', fun b hb => (hf b hb).1⟩⟩
  done := by
    intro X hP hw hK hc i pins s σ H E I hf st hg
    subst hP hw hK
    obtain ⟨xs, hq, hx⟩ := hg
    obtain ⟨its, rv, p, hz⟩ := I.tuple hq
    obtain ⟨f0, f1, f2, f3, f4, f5⟩ := hf it (by simp)
    have hl := rv.length
    exact wpAny_pyNext_tuple_end (I.ok.hd hc) st (show s.heap.IsTuple a its.toArray from p) (by simp; omega) fun h' eb => ⟨rfl, I.turned (t' := s.toks) (fun b o hb e => eb b o hb e) f0 f1 f3 f4 f5⟩
  self := fun _ _ _ _ _ st h => wpAny_pyIter_tupleiter st h
theorem turn_range {P : Program} {w : World} {K : PySem.W.Frag} {tg : Expr} (it : Addr) (lo : Int) (n : Nat) : Turn P w K tg (Itr lo n) [it] it (fun i h => IsRangeIter h it (lo + (i : Nat) * 1) ((n : Int) - (i : Nat)) 1) where
  mem := by simp
  obj := fun i h st b hb => by
    have e : b = it := by simpa using hb
    subst e
    exact ⟨_, st, fun v z => by
      have z' : Data.fields _ = Data.cell v := z
      cases z'⟩
  keep := fun i h h' st k => k it (by simp) _ st
  item := by
    intro X hP hw hK hc i pins s σ H E I hf st hg
    subst hP hw hK
    obtain ⟨f0, f1, f2, f3, f4, f5⟩ := hf it (by simp)
    have W := Walks.range (prog := X.prog) (w := X.w) (I.ok.hd hc) it lo 1 n
    refine W.item i s _ _ hg st fun v h' tk hv st' kk => ?_
    obtain ⟨t, rfl⟩ := hv
    have I1 : Inv X pins σ H { s with heap := h', toks := tk } := I.turned (fun b o hb e => kk b o (by simpa using hb) e) f0 f1 f3 f4 f5
    refine ⟨_, rfl, go_of (s := { s with heap := h', toks := tk }) (n := "range_iterator") st' rfl rfl (by decide) ⟨.int (lo + i), H, I1, ⟨t, ?_⟩, ⟨rfl, rfl⟩, st', fun b hb => (hf b hb).1⟩⟩
    rw [Int.mul_one]
  done := by
    intro X hP hw hK hc i pins s σ H E I hf st hg
    subst hP hw hK
    obtain ⟨f0, f1, f2, f3, f4, f5⟩ := hf it (by simp)
    exact wpAny_pyNext_range_end (I.ok.hd hc) st (by have : n ≤ i := hg; omega) fun h' eb => ⟨rfl, I.turned (t' := s.toks) (fun b o hb e => eb b o hb e) f0 f1 f3 f4 f5⟩
  self := fun _ _ _ _ _ st h => wpAny_pyIter_rangeiter st h
end L2
namespace L2
open PySem PySem.Spec PyProof.Rows
section
variable {X : Cx} {tg : Expr}
def iList (K : PySem.W.Frag) (tl : TE) : TI := fun σ H R => tl σ H fun x H1 => ∃ a, x = .ref a ∧ (∃ xs, SqL K H1 a xs) ∧ R (Itl K a) H1
def iTup (K : PySem.W.Frag) (tl : TE) : TI := fun σ H R => tl σ H fun x H1 => ∃ a, x = .ref a ∧ (∃ xs, SqT K H1 a xs) ∧ R (Itt K a) H1
theorem pi_list {l : Expr} {tl : TE} (hl : PE X l tl) : PI X tg l (iList X.K tl) := by
  intro pins s σ H R I h
  refine thn (hl pins s σ H _ I h) fun v s1 ⟨x, H1, I1, r1, q1⟩ => ?_
  obtain ⟨a, e, ⟨xs, hq⟩, q⟩ := q1
  subst e
  cases r1
  obtain ⟨its, rv, p, hz⟩ := I1.list hq
  refine wpAny_pyIter_list p.isList ?_
  refine ⟨s1.heap.objs.size, [s1.heap.objs.size], _, _, H1, rfl, I1.kept (t' := s1.toks) fun b o e => Heap.get?_push_of_some _ e, turn_list a _, ⟨_, Heap.get?_push_size _ rfl, rfl, rfl⟩, fun b hb => ?_, q⟩
  have e : b = s1.heap.objs.size := by simpa using hb
  subst e
  exact I1.fpOk (Nat.le_refl _) (I1.hok.fresh (Nat.le_refl _))
theorem pi_tup {l : Expr} {tl : TE} (hl : PE X l tl) : PI X tg l (iTup X.K tl) := by
  intro pins s σ H R I h
  refine thn (hl pins s σ H _ I h) fun v s1 ⟨x, H1, I1, r1, q1⟩ => ?_
  obtain ⟨a, e, ⟨xs, hq⟩, q⟩ := q1
  subst e
  cases r1
  obtain ⟨its, rv, p, hz⟩ := I1.tuple hq
  refine wpAny_pyIter_tuple (show s1.heap.IsTuple a its.toArray from p) ?_
  refine ⟨s1.heap.objs.size, [s1.heap.objs.size], _, _, H1, rfl, I1.kept (t' := s1.toks) fun b o e => Heap.get?_push_of_some _ e, turn_tuple a _, ⟨_, Heap.get?_push_size _ rfl, rfl, rfl⟩, fun b hb => ?_, q⟩
  have e : b = s1.heap.objs.size := by simpa using hb
  subst e
  exact I1.fpOk (Nat.le_refl _) (I1.hok.fresh (Nat.le_refl _))
theorem range_it {pins : List (Addr × Obj)} {σ : St} {H : Hp} {s : Shared} {R : It → Hp → Prop} {E : Value → Shared → Prop} {lo hi : Int} {t u v : Tok} {tk : Nat} (I : Inv X pins σ H s) (h1 : -(2 ^ 62) ≤ lo) (h2 : lo < 2 ^ 62) (h3 : -(2 ^ 62) ≤ hi) (h4 : hi < 2 ^ 62)
    (q : R (Itr lo (hi - lo).toNat) H) : wpAny (model X.prog X.w) X.A (pyIter (.ref s.heap.objs.size)) (PIE X pins σ tg R) E { s with heap := s.heap.push { cls := .type "range", data := .fields #[.int lo t, .int hi u, .int 1 v] }, toks := tk } := by
  refine wpAny_pyIter_range (IsRange.new ..) (small_one h1 h2 h3 h4) ?_
  have I1 : Inv X pins σ H { s with heap := s.heap.push { cls := .type "range", data := .fields #[.int lo t, .int hi u, .int 1 v] }, toks := tk } := I.kept fun b o e => Heap.get?_push_of_some _ e
  refine ⟨(s.heap.push { cls := .type "range", data := .fields #[.int lo t, .int hi u, .int 1 v] }).objs.size, [(s.heap.push { cls := .type "range", data := .fields #[.int lo t, .int hi u, .int 1 v] }).objs.size], _, _, H, rfl,
    I1.kept (t' := tk) fun b o e => Heap.get?_push_of_some _ e, turn_range _ lo (hi - lo).toNat, ?_, fun b hb => ?_, q⟩
  · have e1 : lo + ((0 : Nat) : Int) * 1 = lo := by simp
    have e2 : (((hi - lo).toNat : Nat) : Int) - ((0 : Nat) : Int) = Builtin.Range.rangeSize lo hi 1 := by rw [rangeSize_one]; split <;> omega
    show IsRangeIter _ _ (lo + ((0 : Nat) : Int) * 1) ((((hi - lo).toNat : Nat) : Int) - ((0 : Nat) : Int)) 1
    rw [e1, e2]
    exact Heap.get?_push_size _ rfl
  · have e : b = (s.heap.push { cls := .type "range", data := .fields #[.int lo t, .int hi u, .int 1 v] }).objs.size := by simpa using hb
    subst e
    exact I1.fpOk (Nat.le_refl _) (I1.hok.fresh (Nat.le_refl _))
def iRng1 (ta : TA) : TI := fun σ H R => ta σ H fun vs H1 => ∃ j : Int, vs = [.int j] ∧ -(2 ^ 62) ≤ j ∧ j < 2 ^ 62 ∧ R (Itr 0 j.toNat) H1
def iRng2 (ta : TA) : TI := fun σ H R => ta σ H fun vs H1 => ∃ i j : Int, vs = [.int i, .int j] ∧ (-(2 ^ 62) ≤ i ∧ i < 2 ^ 62 ∧ -(2 ^ 62) ≤ j ∧ j < 2 ^ 62) ∧ R (Itr i (j - i).toNat) H1
theorem pi_range1 {a : Expr} {ta : TA} {p pos : Pos} (hg : Gl X "range") (hm : X.mg "range" = none) (ha : PA X [a] ta) (hs : starEach [a] X.env = [(false, eval a X.env)] := by rfl) : PI X tg (.Call (.Name "range" p) [a] [] pos) (iRng1 ta) := by
  intro pins s σ H R I h
  refine Call_ (ld_blt I hg hm boot_range (PyProof.Rows.callWith_type1 (thn (ha pos pins s σ H _ I h) fun us s1 ⟨vs, H1, I1, r1, q1⟩ => ?_) hs rfl))
  obtain ⟨j, e, q1, q2, q⟩ := q1
  subst e
  cases r1 with
  | cons r rr =>
    cases rr
    obtain ⟨t, rfl⟩ := r
    exact call_range_1 (range_it I1 (by omega) (by omega) q1 q2 (by simpa using q))
theorem pi_range2 {a b : Expr} {ta : TA} {p pos : Pos} (hg : Gl X "range") (hm : X.mg "range" = none) (ha : PA X [a, b] ta) (hs : starEach [a, b] X.env = [(false, eval a X.env), (false, eval b X.env)] := by rfl) (hs2 : starEach [b] X.env = [(false, eval b X.env)] := by rfl) :
    PI X tg (.Call (.Name "range" p) [a, b] [] pos) (iRng2 ta) := by
  intro pins s σ H R I h
  refine Call_ (ld_blt I hg hm boot_range (PyProof.Rows.callWith_type1 (thn (ha pos pins s σ H _ I h) fun us s1 ⟨vs, H1, I1, r1, q1⟩ => ?_) (by rw [hs, hs2]) (by rw [hs2]; rfl)))
  obtain ⟨i, j, e, ⟨q1, q2, q3, q4⟩, q⟩ := q1
  subst e
  cases r1 with
  | cons r rr =>
    cases rr with
    | cons r' rr =>
      cases rr
      obtain ⟨t, rfl⟩ := r
      obtain ⟨t', rfl⟩ := r'
      exact call_range_2 (range_it I1 q1 q2 q3 q4 q)
def tFor (wi : TI) (g : TG) (tb : TS) : TS := fun D σ H => wi σ H fun J H1 => ∃ W : Nat → Nat → St → Hp → Prop, (∃ m, W 0 m σ H1) ∧ ∀ i m σ H, W i m σ H →
  (J.stop i H ∧ D.nx σ H) ∨ (J.go i H ∧ ∃ N : St → Hp → Prop, (∀ σ' H', N σ' H' → ∃ m', m' < m ∧ W (i + 1) m' σ' H') ∧ ∀ x H', J.yld i H x H' → g x σ H' fun σ2 H2 => tb { D with nx := N, ct := N, bk := D.nx } σ2 H2)
def pinsAt (fp : List Addr) (h : Heap) : List (Addr × Obj) := fp.filterMap fun b => (h.get? b).map fun o => (b, o)
theorem mem_pinsAt {fp : List Addr} {h : Heap} {b : Addr} {o : Obj} (hb : b ∈ fp) (e : h.get? b = some o) : (b, o) ∈ pinsAt fp h := List.mem_filterMap.mpr ⟨b, hb, by rw [e]; rfl⟩
theorem of_pinsAt {fp : List Addr} {h : Heap} {p : Addr × Obj} (hp : p ∈ pinsAt fp h) : p.1 ∈ fp ∧ h.get? p.1 = some p.2 := by
  obtain ⟨b, hb, e⟩ := List.mem_filterMap.mp hp
  cases q : h.get? b with
  | none => rw [q] at e; cases e
  | some o =>
    rw [q] at e
    have e' : (b, o) = p := Option.some.inj e
    subst e'
    exact ⟨hb, q⟩
theorem Inv.pinned {pins : List (Addr × Obj)} {σ : St} {H : Hp} {s : Shared} {fp : List Addr} (I : Inv X pins σ H s) (hf : ∀ b ∈ fp, FpOk X pins H b) (ho : ∀ b ∈ fp, ∃ o, s.heap.get? b = some o ∧ ∀ v, o.data ≠ .cell v) : Inv X (pins ++ pinsAt fp s.heap) σ H s :=
  I.pins_of fun p hp => (List.mem_append.mp hp).elim (fun z => I.pin p (List.mem_append_right _ z)) fun z => by
    obtain ⟨hb, e⟩ := of_pinsAt z
    obtain ⟨f0, f1, f2, _⟩ := hf p.1 hb
    obtain ⟨o, e', d⟩ := ho p.1 hb
    rw [e] at e'; cases e'
    exact ⟨e, f0, f1, f2, d⟩
theorem Inv.unpinned {pins pl : List (Addr × Obj)} {σ : St} {H : Hp} {s : Shared} (I : Inv X (pins ++ pl) σ H s) : Inv X pins σ H s := I.pins_of fun p hp => I.pin p (List.mem_append_right _ (List.mem_append_left _ hp))
theorem ps_for {iter : Expr} {body : List Stmt} {wi : TI} {g : TG} {tb : TS} {pos : Pos} (hp : PassesOwn (model X.prog X.w) X.A X.env X.xe) (hc : X.calm = true) (hi : PI X tg iter wi) (hg : PG X tg g) (hb : PSs X body tb)
    (hs : ∀ x, foldedSetIterable iter X.env x = pure x := by intro _; rfl) : PS X (.For tg iter body [] pos) (tFor wi g tb) := by
  intro pins s σ H D I h
  refine wpAny_For (thn (hi pins s σ H _ I h) fun v s1 h1 => thn h1 fun itv s2 h2 => ?_) hs
  obtain ⟨it, fp, tn, J, H2, e, I2, T, st2, f2, W, ⟨m0, w0⟩, turn⟩ := h2
  subst e
  have stat : ∀ {H' : Hp}, (∀ b ∈ fp, H' b = none) → ∀ b ∈ fp, FpOk X pins H' b := fun hn b hb => ⟨hn b hb, (f2 b hb).2⟩
  refine codeAny_forLoop_any (fun n s' => ∃ i σ' H', Inv X pins σ' H' s' ∧ tn i s'.heap ∧ (∀ b ∈ fp, H' b = none) ∧ W i n σ' H') ?_ m0 ⟨0, σ, H2, I2, st2, fun b hb => (f2 b hb).1, w0⟩
  rintro n s3 ⟨i, σ3, H3, I3, st3, fr3, w3⟩
  rcases turn i n σ3 H3 w3 with ⟨stop, qn⟩ | ⟨go, N, hN, step⟩
  · refine wpAny_passesOwn hp (thn (T.done X rfl rfl rfl hc i pins s3 σ3 H3 X.xe I3 (stat fr3) st3 stop) fun r s4 ⟨hr, I4⟩ => ?_)
    subst hr
    exact wpAny_execs_nil ⟨σ3, H3, I4, qn⟩
  · refine wpAny_passesOwn hp (thn (T.item X rfl rfl rfl hc i pins s3 σ3 H3 X.xe I3 (stat fr3) st3 go) fun r s4 ⟨u, hr, h4⟩ => ?_)
    subst hr
    refine wpAny_passesOwn hp (thn h4 fun _ s5 ⟨x, H5, I5, r5, y5, st5, fr5⟩ => ?_)
    have I5' := I5.pinned (stat fr5) (T.obj _ _ st5)
    refine wpAny_passesOwn hp (thn (hg _ s5 σ3 H5 x u _ I5' r5 (step x H5 y5)) fun _ s6 ⟨σ6, H6, I6, q6⟩ => ?_)
    refine wpAny_passesOwn hp (thn (hb _ s6 σ6 H6 _ I6 q6) fun f s7 q7 => ?_)
    have again : ∀ {σ7 : St} {H7 : Hp}, Inv X (pins ++ pinsAt fp s5.heap) σ7 H7 s7 → N σ7 H7 → ∃ m, m < n ∧ ∃ i σ' H', Inv X pins σ' H' s7 ∧ tn i s7.heap ∧ (∀ b ∈ fp, H' b = none) ∧ W i m σ' H' := fun {σ7 H7} I7 n7 => by
      obtain ⟨m', hm, w7⟩ := hN σ7 H7 n7
      refine ⟨m', hm, i + 1, σ7, H7, I7.unpinned, T.keep _ _ _ st5 fun b hb o e => (I7.pin (b, o) (List.mem_append_right _ (List.mem_append_right _ (mem_pinsAt hb e)))).1, fun b hb => ?_, w7⟩
      obtain ⟨o, e, d⟩ := T.obj _ _ st5 b hb
      exact (I7.pin (b, o) (List.mem_append_right _ (List.mem_append_right _ (mem_pinsAt hb e)))).2.1
    cases f with
    | next => obtain ⟨σ7, H7, I7, n7⟩ := q7; exact again I7 n7
    | cont => obtain ⟨σ7, H7, I7, n7⟩ := q7; exact again I7 n7
    | brk => obtain ⟨σ7, H7, I7, q7⟩ := q7; exact ⟨σ7, H7, I7.unpinned, q7⟩
    | ret v => obtain ⟨x7, σ7, H7, I7, r7, q7⟩ := q7; exact ⟨x7, σ7, H7, I7.unpinned, r7, q7⟩
end
theorem for_list {K : PySem.W.Frag} {a : Addr} {xs : List V} {g : TG} {tb : TS} {D : Ends} {σ : St} {H : Hp} (Pv : Nat → St → Hp → Prop) (h0 : Pv 0 σ H) (hl : ∀ i σ H, i ≤ xs.length → Pv i σ H → SqL K H a xs)
    (hs : ∀ i x σ H, xs[i]? = some x → Pv i σ H → g x σ H fun σ2 H2 => tb { D with nx := Pv (i + 1), ct := Pv (i + 1), bk := D.nx } σ2 H2) (hd : ∀ σ H, Pv xs.length σ H → D.nx σ H) :
    ∃ W : Nat → Nat → St → Hp → Prop, (∃ m, W 0 m σ H) ∧ ∀ i m σ H, W i m σ H →
      ((Itl K a).stop i H ∧ D.nx σ H) ∨ ((Itl K a).go i H ∧ ∃ N : St → Hp → Prop, (∀ σ' H', N σ' H' → ∃ m', m' < m ∧ W (i + 1) m' σ' H') ∧ ∀ x H', (Itl K a).yld i H x H' → g x σ H' fun σ2 H2 => tb { D with nx := N, ct := N, bk := D.nx } σ2 H2) := by
  refine ⟨fun i m σ H => m = xs.length - i ∧ i ≤ xs.length ∧ Pv i σ H, ⟨xs.length, by simp, Nat.zero_le _, h0⟩, ?_⟩
  rintro i m σ H ⟨rfl, hi, p⟩
  have q := hl i σ H hi p
  by_cases hlt : i < xs.length
  · refine .inr ⟨⟨xs, xs[i], q, by simp [hlt]⟩, Pv (i + 1), fun σ' H' p' => ⟨xs.length - (i + 1), by omega, rfl, hlt, p'⟩, fun x H' y => ?_⟩
    obtain ⟨e, y⟩ := y
    subst e
    exact hs i x σ _ (y xs q) p
  · have e : i = xs.length := by omega
    subst e
    exact .inl ⟨⟨xs, q, Nat.le_refl _⟩, hd σ H p⟩
theorem for_range {lo : Int} {n : Nat} {g : TG} {tb : TS} {D : Ends} {σ : St} {H : Hp} (Pv : Nat → St → Hp → Prop) (h0 : Pv 0 σ H)
    (hs : ∀ i σ H, i < n → Pv i σ H → g (.int (lo + i)) σ H fun σ2 H2 => tb { D with nx := Pv (i + 1), ct := Pv (i + 1), bk := D.nx } σ2 H2) (hd : ∀ σ H, Pv n σ H → D.nx σ H) :
    ∃ W : Nat → Nat → St → Hp → Prop, (∃ m, W 0 m σ H) ∧ ∀ i m σ H, W i m σ H →
      ((Itr lo n).stop i H ∧ D.nx σ H) ∨ ((Itr lo n).go i H ∧ ∃ N : St → Hp → Prop, (∀ σ' H', N σ' H' → ∃ m', m' < m ∧ W (i + 1) m' σ' H') ∧ ∀ x H', (Itr lo n).yld i H x H' → g x σ H' fun σ2 H2 => tb { D with nx := N, ct := N, bk := D.nx } σ2 H2) := by
  refine ⟨fun i m σ H => m = n - i ∧ i ≤ n ∧ Pv i σ H, ⟨n, by simp, Nat.zero_le _, h0⟩, ?_⟩
  rintro i m σ H ⟨rfl, hi, p⟩
  by_cases hlt : i < n
  · refine .inr ⟨hlt, Pv (i + 1), fun σ' H' p' => ⟨n - (i + 1), by omega, rfl, hlt, p'⟩, fun x H' y => ?_⟩
    obtain ⟨e, y⟩ := y
    subst e y
    exact hs i σ _ hlt p
  · have e : i = n := by omega
    subst e
    exact .inl ⟨Nat.le_refl _, hd σ H p⟩
end L2
namespace L2
open PySem PySem.Spec PyProof.Rows
abbrev R2 := V → V → Hp → VK → Prop
def OpR (X : Cx) (f : Value → Value → Sem Value) (r : R2) : Prop :=
  ∀ (pins : List (Addr × Obj)) (s : Shared) (σ : St) (H : Hp) (x y : V) (v u : Value) (Q : VK), Inv X pins σ H s → RelV x v → RelV y u → r x y H Q →
    wpAny (model X.prog X.w) X.A (f v u) (EP X pins σ Q) X.xe s
def CallR (X : Cx) (f : Value) (r : List V → Hp → VK → Prop) : Prop :=
  ∀ (pins : List (Addr × Obj)) (s : Shared) (σ : St) (H : Hp) (xs : List V) (us : List Value) (Q : VK), Inv X pins σ H s → Vals xs us → r xs H Q →
    wpAny (model X.prog X.w) X.A (call f us) (EP X pins σ Q) X.xe s
def tOp (r : R2) (ta tb : TE) : TE := fun σ H Q => ta σ H fun x H1 => tb σ H1 fun y H2 => r x y H2 Q
def rI (C : Int → Int → Prop) (g : Int → Int → V) : R2 := fun x y H Q => ∃ i j, x = .int i ∧ y = .int j ∧ C i j ∧ Q (g i j) H
def rI0 (g : Int → Int → V) : R2 := fun x y H Q => ∃ i j, x = .int i ∧ y = .int j ∧ Q (g i j) H
section
variable {X : Cx} {a b c : Expr} {ta tb tc : TE} {pos : Pos}
theorem binT (ha : PE X a ta) (hb : PE X b tb) {pins : List (Addr × Obj)} {s : Shared} {σ : St} {H : Hp} {R : V → V → Hp → Prop} (I : Inv X pins σ H s)
    (h : ta σ H fun x H1 => tb σ H1 fun y H2 => R x y H2) {Q : Value → Shared → Prop} {f : Value → Value → Sem Value}
    (hf : ∀ v u s2 x y H2, Inv X pins σ H2 s2 → RelV x v → RelV y u → R x y H2 → wpAny (model X.prog X.w) X.A (f v u) Q X.xe s2) :
    wpAny (model X.prog X.w) X.A (eval a X.env) (fun v s₁ => wpAny (model X.prog X.w) X.A (eval b X.env) (fun u s₂ => wpAny (model X.prog X.w) X.A (f v u) Q X.xe s₂) X.xe s₁) X.xe s := by
  refine thn (ha pins s σ H _ I h) fun v s1 ⟨x, H1, I1, r1, q1⟩ => ?_
  refine thn (hb pins s1 σ H1 _ I1 q1) fun u s2 ⟨y, H2, I2, r2, q2⟩ => ?_
  exact hf v u s2 x y H2 I2 r1 r2 q2
theorem pe_op {op : Operator} {r : R2} (ho : OpR X (binaryOp op) r) (ha : PE X a ta) (hb : PE X b tb) : PE X (.BinOp a op b pos) (tOp r ta tb) := by
  intro pins s σ H Q I h
  exact wpAny_BinOp (binT ha hb I h fun v u s2 x y H2 I2 rx ry q => ho pins s2 σ H2 x y v u Q I2 rx ry q)
theorem opI {f : Value → Value → Sem Value} {C : Int → Int → Prop} {g : Int → Int → Int}
    (rule : ∀ (i j : Int) (t u : Tok) (s : Shared) (Q : Value → Shared → Prop) (E : Value → Shared → Prop), C i j → Q (.int (g i j) s.toks) { s with toks := s.toks + 1 } → wpAny (model X.prog X.w) X.A (f (.int i t) (.int j u)) Q E s) :
    OpR X f (rI C fun i j => .int (g i j)) := by
  intro pins s σ H x y v u Q I rx ry h
  obtain ⟨i, j, rfl, rfl, hc, q⟩ := h
  obtain ⟨t, rfl⟩ := rx
  obtain ⟨t', rfl⟩ := ry
  exact rule i j t t' s _ _ hc ⟨.int (g i j), H, I.tok _, ⟨_, rfl⟩, q⟩
theorem opI0 {f : Value → Value → Sem Value} {g : Int → Int → Int}
    (rule : ∀ (i j : Int) (t u : Tok) (s : Shared) (Q : Value → Shared → Prop) (E : Value → Shared → Prop), Q (.int (g i j) s.toks) { s with toks := s.toks + 1 } → wpAny (model X.prog X.w) X.A (f (.int i t) (.int j u)) Q E s) :
    OpR X f (rI0 fun i j => .int (g i j)) := by
  intro pins s σ H x y v u Q I rx ry h
  obtain ⟨i, j, rfl, rfl, q⟩ := h
  obtain ⟨t, rfl⟩ := rx
  obtain ⟨t', rfl⟩ := ry
  exact rule i j t t' s _ _ ⟨.int (g i j), H, I.tok _, ⟨_, rfl⟩, q⟩
theorem opB0 {f : Value → Value → Sem Value} {g : Int → Int → Bool}
    (rule : ∀ (i j : Int) (t u : Tok) (s : Shared) (Q : Value → Shared → Prop) (E : Value → Shared → Prop), Q (.bool (g i j)) s → wpAny (model X.prog X.w) X.A (f (.int i t) (.int j u)) Q E s) :
    OpR X f (rI0 fun i j => .bl (g i j)) := by
  intro pins s σ H x y v u Q I rx ry h
  obtain ⟨i, j, rfl, rfl, q⟩ := h
  obtain ⟨t, rfl⟩ := rx
  obtain ⟨t', rfl⟩ := ry
  exact rule i j t t' s _ _ ⟨.bl (g i j), H, I, rfl, q⟩
def CDiv (i j : Int) : Prop := 0 < j ∧ j < 1073741824
def CPow (i j : Int) : Prop := 0 ≤ j ∧ j ≤ 1000000 ∧ i.natAbs < 2 ^ 64
def CMul (i j : Int) : Prop := (-(2 ^ 64) < i ∧ i < 2 ^ 64) ∨ (-(2 ^ 64) < j ∧ j < 2 ^ 64)
theorem CMul.ok {i j : Int} (h : CMul i j) : IntMulOk i j := by
  rcases h with ⟨h1, h2⟩ | ⟨h1, h2⟩
  · exact .of_left (intBits_le_64 h1 h2)
  · exact .of_right (intBits_le_64 h1 h2)
theorem op_add : OpR X (binaryOp .Add) (rI0 fun i j => .int (i + j)) := opI0 fun _ _ _ _ _ _ _ q => add_int q
theorem op_sub : OpR X (binaryOp .Sub) (rI0 fun i j => .int (i - j)) := opI0 fun _ _ _ _ _ _ _ q => sub_int q
theorem op_mul : OpR X (binaryOp .Mult) (rI CMul fun i j => .int (i * j)) := opI fun _ _ _ _ _ _ _ hc q => mul_int q hc.ok
theorem op_fdiv : OpR X (binaryOp .FloorDiv) (rI CDiv fun i j => .int (i / j)) := opI fun i j _ _ _ _ _ hc q => by
  have h1 : (0 : Int) < j := hc.1
  have h2 : j < 1073741824 := hc.2
  exact floordiv_int (by omega) (by rw [Int.fdiv_eq_ediv_of_nonneg i (by omega)]; exact q) (.inl (PyProof.noPylong_small (by omega)))
theorem op_mod : OpR X (binaryOp .Mod) (rI (fun _ j => 0 < j) fun i j => .int (i % j)) := opI fun i j _ _ _ _ _ hc q => by
  have h1 : (0 : Int) < j := hc
  exact mod_int' (by omega) (by rw [Int.fmod_eq_emod_of_nonneg i (by omega)]; exact q)
theorem op_pow : OpR X (binaryOp .Pow) (rI CPow fun i j => .int (i ^ j.toNat)) := opI fun _ _ _ _ _ _ _ hc q => pow_int_small hc.1 hc.2.1 hc.2.2 q
end
def scal : V → V → Bool
  | .non, .non => true | .non, .int _ => true | .int _, .non => true | .non, .bl _ => true | .bl _, .non => true | .non, .str _ => true | .str _, .non => true
  | .int _, .int _ => true | .bl _, .bl _ => true | .str _, .str _ => true | .byt _, .byt _ => true
  | .int _, .str _ => true | .str _, .int _ => true | .bl _, .str _ => true | .str _, .bl _ => true
  | _, _ => false
def rEq : R2 := fun x y H Q => scal x y = true ∧ Q (.bl (decide (x = y))) H
def rNe : R2 := fun x y H Q => scal x y = true ∧ Q (.bl (!decide (x = y))) H
theorem dec_int {i j : Int} : decide (V.int i = V.int j) = (i == j) := by
  rw [Bool.eq_iff_iff]
  simp
theorem dec_bl {i j : Bool} : decide (V.bl i = V.bl j) = (i == j) := by
  rw [Bool.eq_iff_iff]
  simp
theorem dec_str {i j : Str} : decide (V.str i = V.str j) = (i == j) := by
  rw [Bool.eq_iff_iff]
  simp
theorem dec_byt {i j : Array UInt8} : decide (V.byt i = V.byt j) = (i.toList == j.toList) := by
  rw [Bool.eq_iff_iff]
  cases i
  cases j
  simp
section
variable {X : Cx} {a b c : Expr} {ta tb tc : TE} {pos : Pos}
theorem fin_bl {pins : List (Addr × Obj)} {σ : St} {H : Hp} {s : Shared} {Q : VK} {k k' : Bool} (I : Inv X pins σ H s) (q : Q (.bl k) H) (e : k = k') : EP X pins σ Q (.bool k') s := by
  subst e
  exact ⟨.bl k, H, I, rfl, q⟩
theorem op_eq : OpR X (compareOp .Eq) rEq := by
  intro pins s σ H x y v u Q I rx ry h
  obtain ⟨hs, q⟩ := h
  cases x with
  | non =>
    cases rx
    cases y with
    | non => cases ry; exact PySem.EqNone.eq_none_none (fin_bl I q (by simp))
    | bl j => cases ry; exact PySem.EqNone.eq_none_bool (fin_bl I q (by simp))
    | int j => obtain ⟨t', rfl⟩ := ry; exact PySem.EqNone.eq_none_int (fin_bl I q (by simp))
    | str j => obtain ⟨t', rfl⟩ := ry; exact PySem.EqNone.eq_none_str (fin_bl I q (by simp))
    | _ => exact absurd (show false = true from hs) Bool.false_ne_true
  | bl i =>
    cases rx
    cases y with
    | non => cases ry; exact PySem.EqNone.eq_bool_none (fin_bl I q (by simp))
    | bl j => cases ry; exact eq_bool (fin_bl I q dec_bl)
    | str j => obtain ⟨t', rfl⟩ := ry; exact PySem.EqMixed.eq_bool_str (fin_bl I q (by simp))
    | _ => exact absurd (show false = true from hs) Bool.false_ne_true
  | int i =>
    obtain ⟨t, rfl⟩ := rx
    cases y with
    | non => cases ry; exact PySem.EqNone.eq_int_none (fin_bl I q (by simp))
    | int j => obtain ⟨t', rfl⟩ := ry; exact eq_int (fin_bl I q dec_int)
    | str j => obtain ⟨t', rfl⟩ := ry; exact PySem.EqMixed.eq_int_str (fin_bl I q (by simp))
    | _ => exact absurd (show false = true from hs) Bool.false_ne_true
  | str i =>
    obtain ⟨t, rfl⟩ := rx
    cases y with
    | non => cases ry; exact PySem.EqNone.eq_str_none (fin_bl I q (by simp))
    | bl j => cases ry; exact PySem.EqMixed.eq_str_bool (fin_bl I q (by simp))
    | int j => obtain ⟨t', rfl⟩ := ry; exact PySem.EqMixed.eq_str_int (fin_bl I q (by simp))
    | str j => obtain ⟨t', rfl⟩ := ry; exact eq_str (fin_bl I q dec_str)
    | _ => exact absurd (show false = true from hs) Bool.false_ne_true
  | byt i =>
    obtain ⟨t, rfl⟩ := rx
    cases y with
    | byt j => obtain ⟨t', rfl⟩ := ry; exact PySem.W.eq_bytes (fin_bl I q dec_byt)
    | _ => exact absurd (show false = true from hs) Bool.false_ne_true
  | _ => cases y <;> exact absurd (show false = true from hs) Bool.false_ne_true
theorem op_ne : OpR X (compareOp .NotEq) rNe := by
  intro pins s σ H x y v u Q I rx ry h
  obtain ⟨hs, q⟩ := h
  cases x with
  | non =>
    cases rx
    cases y with
    | non => cases ry; exact PySem.EqNone.ne_none_none (fin_bl I q (by simp))
    | bl j => cases ry; exact PySem.EqNone.ne_none_bool (fin_bl I q (by simp))
    | int j => obtain ⟨t', rfl⟩ := ry; exact PySem.EqNone.ne_none_int (fin_bl I q (by simp))
    | str j => obtain ⟨t', rfl⟩ := ry; exact PySem.EqNone.ne_none_str (fin_bl I q (by simp))
    | _ => exact absurd (show false = true from hs) Bool.false_ne_true
  | bl i =>
    cases rx
    cases y with
    | non => cases ry; exact PySem.EqNone.ne_bool_none (fin_bl I q (by simp))
    | bl j => cases ry; exact ne_bool (fin_bl I q (congrArg not dec_bl))
    | str j => obtain ⟨t', rfl⟩ := ry; exact PySem.EqMixed.ne_bool_str (fin_bl I q (by simp))
    | _ => exact absurd (show false = true from hs) Bool.false_ne_true
  | int i =>
    obtain ⟨t, rfl⟩ := rx
    cases y with
    | non => cases ry; exact PySem.EqNone.ne_int_none (fin_bl I q (by simp))
    | int j => obtain ⟨t', rfl⟩ := ry; exact ne_int (fin_bl I q (congrArg not dec_int))
    | str j => obtain ⟨t', rfl⟩ := ry; exact PySem.EqMixed.ne_int_str (fin_bl I q (by simp))
    | _ => exact absurd (show false = true from hs) Bool.false_ne_true
  | str i =>
    obtain ⟨t, rfl⟩ := rx
    cases y with
    | non => cases ry; exact PySem.EqNone.ne_str_none (fin_bl I q (by simp))
    | bl j => cases ry; exact PySem.EqMixed.ne_str_bool (fin_bl I q (by simp))
    | int j => obtain ⟨t', rfl⟩ := ry; exact PySem.EqMixed.ne_str_int (fin_bl I q (by simp))
    | str j => obtain ⟨t', rfl⟩ := ry; exact ne_str (fin_bl I q (congrArg not dec_str))
    | _ => exact absurd (show false = true from hs) Bool.false_ne_true
  | byt i =>
    obtain ⟨t, rfl⟩ := rx
    cases y with
    | byt j => obtain ⟨t', rfl⟩ := ry; exact PySem.W.ne_bytes (fin_bl I q (congrArg not dec_byt))
    | _ => exact absurd (show false = true from hs) Bool.false_ne_true
  | _ => cases y <;> exact absurd (show false = true from hs) Bool.false_ne_true
theorem op_lt : OpR X (compareOp .Lt) (rI0 fun i j => .bl (decide (i < j))) := opB0 fun _ _ _ _ _ _ _ q => lt_int q
theorem op_gt : OpR X (compareOp .Gt) (rI0 fun i j => .bl (decide (j < i))) := opB0 fun _ _ _ _ _ _ _ q => gt_int q
theorem op_in_str : OpR X (compareOp .In) (fun x y H Q => ∃ i j, x = .str i ∧ y = .str j ∧ Q (.bl (!(Builtin.Str.occurrences j i 0 j.length 1).isEmpty)) H) := by
  intro pins s σ H x y v u Q I rx ry h
  obtain ⟨i, j, rfl, rfl, q⟩ := h
  obtain ⟨t, rfl⟩ := rx
  obtain ⟨t', rfl⟩ := ry
  exact in_str (fin_bl I q rfl)
theorem op_isN : OpR X (compareOp .Is) (fun x y H Q => y = .non ∧ Q (.bl (decide (x = .non))) H) := by
  intro pins s σ H x y v u Q I rx ry h
  obtain ⟨rfl, q⟩ := h
  cases ry
  refine is_none_gen (fin_bl I q ?_)
  cases x <;> first
    | (cases rx; rfl)
    | (obtain ⟨t, rfl⟩ := rx; rfl)
theorem op_notin_str : OpR X (compareOp .NotIn) (fun x y H Q => ∃ i j, x = .str i ∧ y = .str j ∧ Q (.bl (!(!(Builtin.Str.occurrences j i 0 j.length 1).isEmpty))) H) := by
  intro pins s σ H x y v u Q I rx ry h
  obtain ⟨i, j, rfl, rfl, q⟩ := h
  obtain ⟨t, rfl⟩ := rx
  obtain ⟨t', rfl⟩ := ry
  exact notIn_str (fin_bl I q rfl)
theorem OpR.or {f : Value → Value → Sem Value} {r r' : R2} (h : OpR X f r) (h' : OpR X f r') : OpR X f (fun x y H Q => r x y H Q ∨ r' x y H Q) := by
  intro pins s σ H x y v u Q I rx ry q
  rcases q with q | q
  · exact h pins s σ H x y v u Q I rx ry q
  · exact h' pins s σ H x y v u Q I rx ry q
theorem nomark (b : Expr) {op : CmpOp} (h : op ≠ .In := by decide) (h2 : op ≠ .NotIn := by decide) : behindInMarks op b = false := by
  have e1 : (op == CmpOp.In) = false := by cases op <;> first | rfl | exact absurd rfl h
  have e2 : (op == CmpOp.NotIn) = false := by cases op <;> first | rfl | exact absurd rfl h2
  cases b <;> simp [behindInMarks, e1, e2]
theorem pe_cmpR {op : CmpOp} {r : R2} (ho : OpR X (compareOp op) r) (ha : PE X a ta) (hb : PE X b tb) (hm : behindInMarks op b = false) : PE X (.Compare a [op] [b] pos) (tOp r ta tb) := by
  intro pins s σ H Q I h
  exact wpAny_Compare1 (binT ha hb I h fun v u s2 x y H2 I2 rx ry q => ho pins s2 σ H2 x y v u Q I2 rx ry q) hm
def tTest (t : TE) : TT := fun σ H Q => t σ H fun x H' => ∃ k, x = .bl k ∧ Q k H'
theorem pt_cmpR {op : CmpOp} {r : R2} (ho : OpR X (compareOp op) r) (ha : PE X a ta) (hb : PE X b tb) (hm : behindInMarks op b = false) : PT X (.Compare a [op] [b] pos) (tTest (tOp r ta tb)) := by
  intro pins s σ H Q I h
  refine wpAny_isTrue_Compare1 (thn (ha pins s σ H _ I h) fun v s1 ⟨x, H1, I1, r1, q1⟩ => thn (hb pins s1 σ H1 _ I1 q1) fun u s2 ⟨y, H2, I2, r2, q2⟩ =>
    thn (ho pins s2 σ H2 x y v u _ I2 r1 r2 q2) fun c s3 ⟨z, H3, I3, r3, k, e, q3⟩ => ?_) hm
  subst e
  cases r3
  exact wpAny_truthy_bool ⟨H3, I3, q3⟩
def tChain (r r' : R2) (ta tb tc : TE) : TE := fun σ H Q => ta σ H fun x H1 => tb σ H1 fun y H2 => r x y H2 fun z H3 => ∃ k, z = .bl k ∧
  (if k = true then tc σ H3 fun w' H4 => r' y w' H4 Q else Q (.bl false) H3)
theorem pe_chain {op op' : CmpOp} {r r' : R2} (ho : OpR X (compareOp op) r) (ho' : OpR X (compareOp op') r') (ha : PE X a ta) (hb : PE X b tb) (hc : PE X c tc)
    (hm : lastMarks [op, op'] [b, c] = false := by with_unfolding_all rfl) : PE X (.Compare a [op, op'] [b, c] pos) (tChain r r' ta tb tc) := by
  intro pins s σ H Q I h
  refine Compare_chain (thn (ha pins s σ H _ I h) fun v s1 ⟨x, H1, I1, r1, q1⟩ => chain_link (thn (hb pins s1 σ H1 _ I1 q1) fun u s2 ⟨y, H2, I2, r2, q2⟩ =>
    thn (ho pins s2 σ H2 x y v u _ I2 r1 r2 q2) fun d s3 ⟨z, H3, I3, r3, k, e, q3⟩ => ?_)) hm
  subst e
  cases r3
  refine wpAny_truthy_bool ?_
  cases k with
  | false => exact ite_ff ⟨.bl false, H3, I3, rfl, q3⟩
  | true => exact ite_tt (chain_last (thn (hc pins s3 σ H3 _ I3 q3) fun w' s4 ⟨z', H4, I4, r4, q4⟩ => ho' pins s4 σ H4 y z' u w' Q I4 r2 r4 q4))
theorem line63 : (sizeLine : Nat) < 2 ^ 63 := by rw [sizeLine_eq]; decide
theorem op_add_str : OpR X (binaryOp .Add) (fun x y H Q => ∃ i j, x = .str i ∧ y = .str j ∧ i.length + j.length ≤ sizeLine ∧ Q (.str (i ++ j)) H) := by
  intro pins s σ H x y v u Q I rx ry h
  obtain ⟨i, j, rfl, rfl, hz, q⟩ := h
  obtain ⟨t, rfl⟩ := rx
  obtain ⟨t', rfl⟩ := ry
  exact add_str (fun t' tk => ⟨.str (i ++ j), H, I.tok _, ⟨_, rfl⟩, q⟩) hz
theorem vals1 {x : V} {us : List Value} (r : Vals [x] us) : ∃ u, us = [u] ∧ RelV x u := by
  cases r with
  | cons r1 r2 => cases r2; exact ⟨_, rfl, r1⟩
theorem vals2 {x y : V} {us : List Value} (r : Vals [x, y] us) : ∃ u w', us = [u, w'] ∧ RelV x u ∧ RelV y w' := by
  cases r with
  | cons r1 r2 =>
    cases r2 with
    | cons r3 r4 => cases r4; exact ⟨_, _, rfl, r1, r3⟩
theorem call_abs : CallR X (.builtin "abs") (fun xs H Q => ∃ i, xs = [.int i] ∧ Q (.int (if i < 0 then -i else i)) H) := by
  intro pins s σ H xs us Q I r h
  obtain ⟨i, rfl, q⟩ := h
  obtain ⟨u, rfl, t, rfl⟩ := vals1 r
  exact call_abs_int fun u tk => ⟨.int (if i < 0 then -i else i), H, I.tok _, ⟨_, rfl⟩, q⟩
theorem call_max2 (hc : X.calm = true) : CallR X (.builtin "max") (fun xs H Q => ∃ i j, xs = [.int i, .int j] ∧ Q (.int (if j > i then j else i)) H) := by
  intro pins s σ H xs us Q I r h
  obtain ⟨i, j, rfl, q⟩ := h
  obtain ⟨u, w', rfl, ⟨t, rfl⟩, ⟨t', rfl⟩⟩ := vals2 r
  refine max_two_ints (I.ok.hd hc) fun h' tk k => ⟨_, H, I.kept k, ?_, q⟩
  by_cases hj : j > i
  · rw [if_pos hj, if_pos hj]; exact ⟨_, rfl⟩
  · rw [if_neg hj, if_neg hj]; exact ⟨_, rfl⟩
theorem call_str_int : CallR X (.type "str") (fun xs H Q => ∃ i, xs = [.int i] ∧ i.natAbs.log2 < 1920 ∧ Q (.str (toString i)) H) := by
  intro pins s σ H xs us Q I r h
  obtain ⟨i, rfl, hz, q⟩ := h
  obtain ⟨u, rfl, t, rfl⟩ := vals1 r
  exact PySem.P.str_of_int hz ⟨.str _, H, I.tok _, ⟨_, rfl⟩, q⟩
end
end L2
namespace L2
open PySem PySem.Spec PyProof.Rows
structure ObjM (h : Heap) (x dx C : Addr) (mA : Str → Option Value) : Prop where
  obj : h.get? x = some (PySem.W.instObj C dx)
  ns : h.Ns1 dx mA
  ne : dx ≠ x
theorem lookIn_ns {h : Heap} {dx : Addr} {mA : Str → Option Value} (n : h.Ns1 dx mA) : ∃ od, h.get? dx = some od ∧ ∀ name, PySem.W.lookIn name od = some (mA name) := by
  obtain ⟨o, es, ep, ho, hd, hk, _, hm⟩ := n
  refine ⟨o, ho, fun name => ?_⟩
  have e := hm name
  unfold nsFind findBy at e
  rw [← Array.find?_toList] at e
  unfold PySem.W.lookIn
  rw [hd]
  dsimp only
  split
  · rename_i y q
    rw [q] at e
    exact congrArg some e
  · rename_i q
    rw [q] at e
    have a : es.toList.any (·.refKey) = false := by
      rw [List.any_eq_false]
      intro y hy
      obtain ⟨z, t, hkey⟩ := hk y (Array.mem_toList_iff.mp hy)
      simp [DictEntry.refKey, hkey]
    have a' : ¬ es.toList.any (·.refKey) = true := by rw [a]; exact Bool.false_ne_true
    rw [if_neg a']
    exact congrArg some e
theorem ObjM.look {h : Heap} {x dx C : Addr} {mA : Str → Option Value} (I : ObjM h x dx C mA) : ∃ od, PySem.W.InstAt h x (PySem.W.instObj C dx) C (some od) ∧ ∀ name, PySem.W.lookIn name od = some (mA name) :=
  let ⟨od, ho, hl⟩ := lookIn_ns I.ns
  ⟨od, ⟨I.obj, rfl, rfl, ho⟩, hl⟩
section
variable {prog : Program} {w : World} {A : Around} {E : Value → Shared → Prop} {s : Shared} {K : PySem.W.Frag} {x dx C f : Addr} {mA : Str → Option Value} {name : Str} {v : Value}
end
theorem RelO.some_of {v : V} {o : Option Value} (r : RelO (some v) o) : ∃ u, o = some u ∧ RelV v u := by
  cases o with
  | none => exact (show False from r).elim
  | some u => exact ⟨u, rfl, r⟩
theorem handed_of {v : V} {u : Value} (r : RelV v u) : PySem.W.handedIn u = true := by
  cases v with
  | non => cases (show u = Value.none from r); rfl
  | bl b => cases (show u = Value.bool b from r); rfl
  | int i => obtain ⟨t, e⟩ := (show ∃ t, u = Value.int i t from r); cases e; rfl
  | str x => obtain ⟨t, e⟩ := (show ∃ t, u = Value.str x t from r); cases e; rfl
  | byt b => obtain ⟨t, e⟩ := (show ∃ t, u = Value.bytes b t from r); cases e; rfl
  | flt b => obtain ⟨t, e⟩ := (show ∃ t, u = Value.float b t from r); cases e; rfl
  | ref a => cases (show u = Value.ref a from r); rfl
  | ty n => cases (show u = Value.type n from r); rfl
section
variable {P : Program} {w : World} {H H' : Hp} {h h' : Heap} {a C dx : Addr} {fs fs' : List (Str × V)}
end
structure Cls (K : PySem.W.Frag) (C : Addr) : Prop where
  pg : PySem.W.plainGet K C Str.empty = true
  hd : PySem.W.hasDictIn K C = true
  po : PySem.W.plainOver K C = true
  sa : PySem.W.findIn K (.ref C) "__setattr__" = some (some (.builtin "object.__setattr__"))
theorem Cls.get {K : PySem.W.Frag} {C : Addr} (c : Cls K C) (f : Str) : PySem.W.plainGet K C f = true := c.pg
structure Con (K : PySem.W.Frag) (C : Addr) (f : Str) (v : V) (u : Value) : Prop where
  at_ : PySem.W.findIn K (.ref C) f = some (some u)
  rel : RelV v u
  get : PySem.W.specialIn K u "__get__" = some none
  cp : PySem.W.copiedNames.contains f = false
structure Meth (K : PySem.W.Frag) (C : Addr) (m : Str) (f : Addr) : Prop where
  at_ : PySem.W.findIn K (.ref C) m = some (some (.ref f))
  fn : PySem.W.isFn K (.ref f) = true
  kp : PySem.W.keepIn K (.ref f) = true
section
variable {X : Cx} {pins : List (Addr × Obj)} {σ : St} {H : Hp} {s : Shared} {a C dx : Addr} {fs : List (Str × V)} {f : Str} {v : V} {A : Around} {E : Value → Shared → Prop}
theorem attr_of {prog : Program} {w : World} {env : Env} {e : Expr} {f : Str} {pos : Pos} {s : Shared} {Q : Value → Shared → Prop} (hb : attributeBase e f env (eval e env) = eval e env)
    (h : wpAny (model prog w) A (eval e env) (fun o s₁ => wpAny (model prog w) A (getAttr o f true) Q E s₁) E s) : wpAny (model prog w) A (eval (.Attribute e f pos) env) Q E s :=
  Attribute_any_ h (by rw [arm_eval_Attribute, hb])
end
section
variable {X : Cx} {o e value : Expr} {f : Str} {pos pos' tpos : Pos} {ta tv : TE}
end
section
variable {X : Cx} {pins : List (Addr × Obj)} {σ : St} {H : Hp} {s : Shared} {A : Around} {E : Value → Shared → Prop} {Q : Value → Shared → Prop} {c : Value} {b : Bool}
inductive TyOf (K : PySem.W.Frag) (H : Hp) : V → Value → Prop where
  | non : TyOf K H .non (.type "NoneType")
  | bl (x : Bool) : TyOf K H (.bl x) (.type "bool")
  | int (i : Int) : TyOf K H (.int i) (.type "int")
  | str (x : Str) : TyOf K H (.str x) (.type "str")
  | flt (x : UInt64) : TyOf K H (.flt x) (.type "float")
  | lst {a : Addr} {xs : List V} (e : H a = some (.lst xs)) : TyOf K H (.ref a) (.type "list")
  | frz {a : Addr} {o : Obj} {xs : List V} (e : H a = some (.frz o (.lst xs))) : TyOf K H (.ref a) (.type "list")
  | tup {a : Addr} {xs : List V} (e : H a = some (.tup xs)) : TyOf K H (.ref a) (.type "tuple")
  | dK {a : Addr} {kvs : List (Key × V)} (e : H a = some (.dK kvs)) : TyOf K H (.ref a) (.type "dict")
  | dT {a : Addr} {kvs : List (List Key × V)} (e : H a = some (.dT kvs)) : TyOf K H (.ref a) (.type "dict")
  | ins {a C dx : Addr} {fs : List (Str × V)} (e : H a = some (.ins C dx fs)) (cl : Cls K C) (ha : PySem.W.findIn K (.ref C) "__class__" = some (some (.builtin "object.__class__")))
      (hn : PySem.W.specialIn K (.builtin "object.__class__") "__get__" = some (some (.builtin "getset_descriptor.__get__"))) (htk : PySem.W.takesIn K (.builtin "object.__class__") = some true)
      (hm : PySem.W.mroIn K C (.type "object") = some true) : TyOf K H (.ref a) (.ref C)
end
end L2
namespace L2
open PySem PySem.Spec PyProof.Rows
structure Room (k : Nat) (A : Around) : Prop where
  hd : A.handled = none
  dp : A.depth + 3 * k + 5 < recursionLimit
  un : A.units + 16 * k + 200 < cLine
theorem Room.mono {j k : Nat} {A : Around} (r : Room k A) (h : j ≤ k) : Room j A := ⟨r.hd, by have := r.dp; omega, by have := r.un; omega⟩
theorem Room.deeper {k : Nat} {A : Around} (r : Room (k + 1) A) (env : Env) : Room k (A.deeper env) :=
  ⟨r.hd, by have := r.dp; show A.depth + 1 + 3 * k + 5 < _; omega, by have := r.un; show A.units + 3 + 16 * k + 200 < _; omega⟩
theorem Room.in1 {k : Nat} {A : Around} (r : Room (k + 1) A) : Room k A.in1 :=
  ⟨r.hd, by have := r.dp; show A.depth + 3 * k + 5 < _; omega, by have := r.un; show A.units + 1 + 16 * k + 200 < _; omega⟩
theorem make_depth {A : Around} {C : Addr} {us : List Value} {kw : List (Str × Value)} : (A.under (.builtin "type.__call__" ⟨.ref C :: us, kw⟩)).depth = A.depth + 1 := by
  first | rfl | simp [Around.under, Code.weight, Code.isCreation, Code.isGuard, Code.isCaller, Code.frames, Code.isFrame, guardIds]
theorem make_units {A : Around} {C : Addr} {us : List Value} {kw : List (Str × Value)} : (A.under (.builtin "type.__call__" ⟨.ref C :: us, kw⟩)).units = A.units + 1 := by
  first | rfl | simp [Around.under, Code.cUnits, Code.frames, Code.isFrame]
theorem Room.make {k : Nat} {A : Around} (r : Room (k + 1) A) (C : Addr) (us : List Value) (kw : List (Str × Value)) : Room k (A.under (.builtin "type.__call__" ⟨.ref C :: us, kw⟩)) :=
  ⟨r.hd, by have := r.dp; rw [make_depth]; omega, by have := r.un; rw [make_units]; omega⟩
theorem Room.depth {k : Nat} {A : Around} (r : Room k A) : A.depth < recursionLimit := by have := r.dp; omega
theorem Room.units {k : Nat} {A : Around} (r : Room k A) : A.units + 64 < cLine := by have := r.un; omega
def tNil : TA := fun _ H Q => Q [] H
def tCons (ta : TE) (tr : TA) : TA := fun σ H Q => ta σ H fun x H1 => tr σ H1 fun xs H2 => Q (x :: xs) H2
section
variable {X : Cx} {e : Expr} {es : List Expr} {te : TE} {t : TA} {pos : Pos}
theorem pa_nil : PA X [] tNil := fun _ _ _ _ H Q I h => Calls.spliced_nil ⟨[], H, I, .nil, h⟩
theorem pa_cons (ha : PE X e te) (hr : PA X es t) (hs : starEach (e :: es) X.env = (false, eval e X.env) :: starEach es X.env := by rfl) : PA X (e :: es) (tCons te t) := by
  intro pos pins s σ H Q I h
  rw [hs]
  show wpAny _ _ (spliced ((false, eval e X.env) :: backTo pos (starEach es X.env))) _ _ s
  refine Calls.spliced_cons (thn (ha pins s σ H _ I h) fun u s1 ⟨x, H1, I1, r1, q1⟩ => ?_)
  exact thn (hr pos pins s1 σ H1 _ I1 q1) fun us s2 ⟨xs, H2, I2, r2, q2⟩ => ⟨x :: xs, H2, I2, .cons r1 r2, q2⟩
def tTup (t : TA) : TE := fun σ H Q => t σ H fun xs H1 => xs.length ≤ sizeLine ∧ ∀ p, H1 p = none → Q (.ref p) (upd H1 p (.tup xs))
def tLst (t : TA) : TE := fun σ H Q => t σ H fun xs H1 => xs.length ≤ sizeLine ∧ ∀ p, H1 p = none → Q (.ref p) (upd H1 p (.lst xs))
theorem pe_tup {x1} (h : PA X es t) : PE X (.Tuple es x1 pos) (tTup t) := by
  intro pins s σ H Q I hq
  refine wpAny_Tuple_spliced (thn (h pos pins s σ H _ I hq) fun us s1 ⟨xs, H1, I1, r, z, q⟩ => ⟨by rw [← r.length]; exact z, ?_⟩)
  have hf : H1 s1.heap.objs.size = none := I1.hok.fresh (Nat.le_refl _)
  refine ⟨.ref s1.heap.objs.size, upd H1 s1.heap.objs.size (.tup xs), I1.laid (t' := s1.toks) (fun b u e => Heap.get?_push_of_some _ e) (Nat.le_refl _) ?_, rfl, q _ hf⟩
  exact ⟨z, us, r, ⟨_, Heap.get?_push_size _ rfl, rfl, _, rfl⟩⟩
theorem pe_lst (h : PA X es t) : PE X (.List es pos) (tLst t) := by
  intro pins s σ H Q I hq
  refine wpAny_List_spliced (thn (h pos pins s σ H _ I hq) fun us s1 ⟨xs, H1, I1, r, z, q⟩ => ⟨by rw [← r.length]; exact z, ?_⟩)
  have hf : H1 s1.heap.objs.size = none := I1.hok.fresh (Nat.le_refl _)
  refine ⟨.ref s1.heap.objs.size, upd H1 s1.heap.objs.size (.lst xs), I1.laid (t' := s1.toks) (fun b u e => Heap.get?_push_of_some _ e) (Nat.le_refl _) ?_, rfl, q _ hf⟩
  exact ⟨z, us, 0, r, Heap.get?_push_size _ rfl⟩
end
abbrev Sp := List V → Hp → VK → XK → Prop
abbrev CXT := List Env → Hp → Shared → XK → Value → Shared → Prop
structure Env0 (P : Program) (w : World) (K : PySem.W.Frag) (mg : Str → Option Value) (base : Heap) (A : Around) (outer : List Env) (s : Shared) (H : Hp) : Prop where
  frames : A.frames = some outer
  mod : Mod K mg base
  bs : ∀ b o, base.get? b = some o → s.heap.get? b = some o ∧ H b = none
  bsz : base.objs.size ≤ s.heap.objs.size
  funs : s.heap.FunFrames base outer
  frf : ∀ b ∈ frs outer, H b = none
  hok : HOk P w H s.heap
  bare : AllBare s.gens
def CE (outer : List Env) (P : Program) (w : World) (H : Hp) (s : Shared) (Q : VK) (u : Value) (s' : Shared) : Prop :=
  ∃ v H', s'.os = s.os ∧ AllBare s'.gens ∧ Un (frs outer) [] H H' s.heap s'.heap ∧ HOk P w H' s'.heap ∧ RelV v u ∧ Q v H'
def CR (CX : CXT) (outer : List Env) (P : Program) (w : World) (H : Hp) (s : Shared) (Q : VK) (E : XK) (r : Result) (s' : Shared) : Prop :=
  match r with
  | .ok (.ret u) => CE outer P w H s Q u s'
  | .ok _ => False
  | .error e => CX outer H s E e s'
structure FnOk (P : Program) (w : World) (K : PySem.W.Frag) (mg : Str → Option Value) (base : Heap) (CX : CXT) (k : Nat) (f : Addr) (fd : FuncData) (ps : List Str) (sp : Sp) : Prop where
  len : ∀ vs H Q E, sp vs H Q E → vs.length = ps.length
  run : ∀ (A : Around) (outer : List Env) (s : Shared) (H : Hp) (args : Args) (us : List Value) (vs : List V) (Q : VK) (E : XK), Room k A → Env0 P w K mg base A outer s H → BindsTo s fd args (ps.zip us) → Vals vs us → sp vs H Q E →
    codeAny (model P w) A (.call (.ref f) args) (CR CX outer P w H s Q E) s
theorem FnOk.mono {P : Program} {w : World} {K : PySem.W.Frag} {mg : Str → Option Value} {base : Heap} {CX : CXT} {j k : Nat} {f : Addr} {fd : FuncData} {ps : List Str} {sp : Sp} (F : FnOk P w K mg base CX j f fd ps sp) (h : j ≤ k) :
    FnOk P w K mg base CX k f fd ps sp := ⟨F.len, fun A outer s H args us vs Q E hr => F.run A outer s H args us vs Q E (hr.mono h)⟩
theorem Env0.make {P : Program} {w : World} {K : PySem.W.Frag} {mg : Str → Option Value} {base : Heap} {A : Around} {outer : List Env} {s : Shared} {H : Hp} (e : Env0 P w K mg base A outer s H) (C : Addr) (us : List Value) (kw : List (Str × Value)) :
    Env0 P w K mg base (A.under (.builtin "type.__call__" ⟨.ref C :: us, kw⟩)) outer s H := ⟨by first | exact e.frames | (simpa [Around.under, Code.envs, Code.isFrame, pushEnvs] using e.frames), e.mod, e.bs, e.bsz, e.funs, e.frf, e.hok, e.bare⟩
theorem Env0.in1 {P : Program} {w : World} {K : PySem.W.Frag} {mg : Str → Option Value} {base : Heap} {A : Around} {outer : List Env} {s : Shared} {H : Hp} (e : Env0 P w K mg base A outer s H) :
    Env0 P w K mg base A.in1 outer s H := ⟨e.frames, e.mod, e.bs, e.bsz, e.funs, e.frf, e.hok, e.bare⟩
section
variable {X : Cx} {pins : List (Addr × Obj)} {σ : St} {H : Hp} {s s' : Shared}
theorem Inv.env0 (I : Inv X pins σ H s) : Env0 X.prog X.w X.K X.mg X.base X.A X.stack s H :=
  ⟨I.ok.frames, I.ok.mod, I.bs, Nat.le_trans I.ok.bsz I.sz, I.stack, I.stkFree, I.hok, I.bare⟩
theorem Inv.after {Q : VK} {u : Value} (I : Inv X pins σ H s) (h : CE X.stack X.prog X.w H s Q u s') : EP X pins σ Q u s' := by
  obtain ⟨v, H', os, bare, un, hok, r, q⟩ := h
  obtain ⟨hh, g, d, t, os'⟩ := s'
  obtain rfl : os' = s.os := os
  exact ⟨v, H', I.call (h' := hh) (g' := g) (d' := d) (t' := t) (ch := []) un hok bare (fun b z => absurd z (by simp)), r, q⟩
end
def tCall (sp : Sp) (dvs : List V) (E : XK) (t : TA) : TE := fun σ H Q => t σ H fun vs H1 => sp (vs ++ dvs) H1 Q E
def Binds (K : PySem.W.Frag) (fd : FuncData) (ps : List Str) (ds : List Value) : Prop :=
  ∀ (s : Shared) (us : List Value), K.In s.heap → (us ++ ds).length = ps.length → BindsTo s fd ⟨us, []⟩ (ps.zip (us ++ ds))
theorem Binds.all {K : PySem.W.Frag} {fd : FuncData} {ps : List Str} (h : ∀ us : List Value, us.length = ps.length → bindArgs fd ⟨us, []⟩ = pure (ps.zip us)) : Binds K fd ps [] := fun s us _ hl => by
  rw [List.append_nil] at hl ⊢
  exact .of_eq (h us hl)
def Passes (CX : CXT) (X : Cx) (E : XK) : Prop := ∀ (pins : List (Addr × Obj)) (σ : St) (H : Hp) (s : Shared) (e : Value) (s' : Shared), Inv X pins σ H s → CX X.stack H s E e s' → X.xe e s'
section
variable {X : Cx} {CX : CXT} {k : Nat} {f C : Addr} {fd : FuncData} {ps : List Str} {sp : Sp} {dvs : List V} {ds : List Value} {E : XK} {x m : Str} {p pos apos : Pos} {e o : Expr} {es : List Expr} {ta : TE} {t : TA}
theorem run_fn {pins : List (Addr × Obj)} {σ : St} {H : Hp} {s : Shared} {Q : VK} {us : List Value} {vs : List V} (F : FnOk X.prog X.w X.K X.mg X.base CX k f fd ps sp) (hr : Room k X.A) (hb : Binds X.K fd ps ds) (hd : Vals dvs ds) (hx : Passes CX X E)
    (I : Inv X pins σ H s) (r : Vals vs us) (h : sp (vs ++ dvs) H Q E) : wpAny (model X.prog X.w) X.A (call (.ref f) us) (EP X pins σ Q) X.xe s := by
  have r2 : Vals (vs ++ dvs) (us ++ ds) := r.append hd
  have hl : (us ++ ds).length = ps.length := by rw [← r2.length]; exact F.len _ _ _ _ h
  refine wpAny_call (codeAny_mono (F.run X.A X.stack s H ⟨us, []⟩ (us ++ ds) (vs ++ dvs) Q E hr I.env0 (hb s us I.kIn hl) r2 h) fun r s' hq => ?_)
  cases r with
  | error e => exact hx pins σ H s e s' I hq
  | ok fl =>
    cases fl with
    | ret u => exact I.after hq
    | next => exact False.elim hq
    | brk => exact False.elim hq
    | cont => exact False.elim hq
theorem pe_call (F : FnOk X.prog X.w X.K X.mg X.base CX k f fd ps sp) (hr : Room k X.A) (hg : Gl X x) (hm : X.mg x = some (.ref f)) (hk : PySem.W.keepIn X.K (.ref f) = true) (hb : Binds X.K fd ps ds) (hd : Vals dvs ds) (hx : Passes CX X E)
    (ha : PA X (e :: es) t) (hdb : (x == ("__debug__" : Str)) = false := by decide) (he : starEach (e :: es) X.env = (false, eval e X.env) :: starEach es X.env := by rfl) (hpl : (backTo pos (starEach es X.env)).any (·.1) = false := by rfl) :
    PE X (.Call (.Name x p) (e :: es) [] pos) (tCall sp dvs E t) := by
  intro pins s σ H Q I h
  refine wpAny_Call_Name_kw (ld_glob I hg hm ?_ hdb)
  refine PySem.W.callWith_K (h₀ := X.base) I.ok.mod.kin hk (thn (ha pos pins s σ H _ I h) fun us s1 ⟨vs, H1, I1, r, q⟩ => ⟨I1.kIn, ?_⟩) he hpl
  exact run_fn F hr hb hd hx I1 r q
structure Mk (K : PySem.W.Frag) (C f : Addr) : Prop where
  makes : PySem.W.makesIn K C = true
  init : PySem.W.findIn K (.ref C) "__init__" = some (some (.ref f))
  fn : PySem.W.isFn K (.ref f) = true
  kp : PySem.W.keepIn K (.ref C) = true
end
section
variable {X : Cx} {CX : CXT} {k : Nat} {f C : Addr} {fd : FuncData} {ps ks : List Str} {sp : Sp} {E : XK} {x m : Str} {p pos apos kpos : Pos} {e o : Expr} {es : List Expr} {kws : List Keyword} {te ta : TE} {t tk : TA} {nm : Option Str}
structure KBinds (K : PySem.W.Frag) (fd : FuncData) (ps ks : List Str) (g : List Value → List Value → List Value) (gV : List V → List V → List V) : Prop where
  to : ∀ (s : Shared) (us ws : List Value), K.In s.heap → (g us ws).length = ps.length → BindsTo s fd ⟨us, ks.zip ws⟩ (ps.zip (g us ws))
  rel : ∀ {vs : List V} {us : List Value} {zs : List V} {ws : List Value}, Vals vs us → Vals zs ws → Vals (gV vs zs) (g us ws)
variable {g : List Value → List Value → List Value} {gV : List V → List V → List V}
end
structure FnScope (N P : List Str) (sc : Scope) : Prop where
  kind : sc.kind = .function
  co : sc.isCoroutine = false
  gen : sc.isGenerator = false
  nd : N.Nodup
  pre : N.take P.length = P
  par : ∀ x ∈ P, sc.names.lookup x = some .local ∨ sc.names.lookup x = some .cell
  nofree : ∀ y ∈ sc.names, y.2 ≠ .free
theorem bindL_out {kindOf : Str → Option NameKind} {x : Str} : ∀ {binds : List (Str × Value)} {m : Str → Option Value}, (∀ v, (x, v) ∉ binds) → bindL kindOf binds m x = m x
  | [], _, _ => rfl
  | (n, v) :: r, m, h => by
    unfold bindL
    rw [bindL_out fun w hw => h w (List.mem_cons_of_mem _ hw)]
    split
    · have : x ≠ n := by rintro rfl; exact h v List.mem_cons_self
      simp [this]
    · rfl
theorem bindC_out {kindOf : Str → Option NameKind} {x : Str} : ∀ {binds : List (Str × Value)} {m : Str → Option Value}, (∀ v, (x, v) ∉ binds) → bindC kindOf binds m x = m x
  | [], _, _ => rfl
  | (n, v) :: r, m, h => by
    unfold bindC
    rw [bindC_out fun w hw => h w (List.mem_cons_of_mem _ hw)]
    split
    · rfl
    · have : x ≠ n := by rintro rfl; exact h v List.mem_cons_self
      simp [this]
theorem bindL_get {kindOf : Str → Option NameKind} {x : Str} {v : Value} : ∀ {P : List Str} {vs : List Value} {i : Nat} {m : Str → Option Value}, P.Nodup → P[i]? = some x → vs[i]? = some v → kindOf x = some .local →
    bindL kindOf (P.zip vs) m x = some v
  | [], _, _, _, _, h, _, _ => by simp at h
  | _ :: _, [], _, _, _, _, h, _ => by simp at h
  | p :: P, w :: vs, 0, m, nd, h1, h2, hk => by
    simp at h1 h2; subst h1; subst h2
    show bindL kindOf ((p, w) :: P.zip vs) m p = _
    unfold bindL
    rw [bindL_out fun v hv => (List.nodup_cons.mp nd).1 (List.of_mem_zip hv).1, if_pos hk]
    simp
  | p :: P, w :: vs, i + 1, m, nd, h1, h2, hk => by
    show bindL kindOf ((p, w) :: P.zip vs) m x = _
    unfold bindL
    exact bindL_get (i := i) (List.nodup_cons.mp nd).2 (by simpa using h1) (by simpa using h2) hk
theorem bindC_get {kindOf : Str → Option NameKind} {x : Str} {v : Value} : ∀ {P : List Str} {vs : List Value} {i : Nat} {m : Str → Option Value}, P.Nodup → P[i]? = some x → vs[i]? = some v → kindOf x ≠ some .local →
    bindC kindOf (P.zip vs) m x = some v
  | [], _, _, _, _, h, _, _ => by simp at h
  | _ :: _, [], _, _, _, _, h, _ => by simp at h
  | p :: P, w :: vs, 0, m, nd, h1, h2, hk => by
    simp at h1 h2; subst h1; subst h2
    show bindC kindOf ((p, w) :: P.zip vs) m p = _
    unfold bindC
    rw [bindC_out fun v hv => (List.nodup_cons.mp nd).1 (List.of_mem_zip hv).1, if_neg hk]
    simp
  | p :: P, w :: vs, i + 1, m, nd, h1, h2, hk => by
    show bindC kindOf ((p, w) :: P.zip vs) m x = _
    unfold bindC
    exact bindC_get (i := i) (List.nodup_cons.mp nd).2 (by simpa using h1) (by simpa using h2) hk
def start (N : List Str) (vs : List V) : St := vs.map some ++ List.replicate (N.length - vs.length) none
def cxOf (CX : CXT) (P : Program) (w : World) (K : PySem.W.Frag) (mg : Str → Option Value) (base : Heap) (N : List Str) (qual : Str) (scope : Scope) (f : Addr) (cd : Value) (A : Around) (outer : List Env) (s : Shared) (H : Hp) (E : XK) : Cx where
  prog := P
  w := w
  K := K
  mg := mg
  base := base
  A := A.deeper (envOfC qual scope s.heap.objs.size f cd)
  N := N
  s₀ := s
  H₀ := H
  env := envOfC qual scope s.heap.objs.size f cd
  outer := outer
  stack := envOfC qual scope s.heap.objs.size f cd :: outer
  ex := []
  calm := true
  fn := fun _ => true
  pn := []
  xe := fun e s' => wpAny (model P w) (A.deeper (envOfC qual scope s.heap.objs.size f cd)) (leaving (envOfC qual scope s.heap.objs.size f cd) e) (fun _ s'' => CX outer H s E e s'') (fun e' s'' => CX outer H s E e' s'') s'
theorem cell_has {sc : Scope} {n : Nat} {x : Str} (h : sc.names.lookup x = some .cell) : ∃ c, (cellsFrom n sc.names []).lookup x = some c := by
  have q := PySem.W.cellsFrom_some sc.names n [] (.inl h)
  exact Option.isSome_iff_exists.mp q
theorem inv_start {CX : CXT} {P : Program} {w : World} {K : PySem.W.Frag} {mg : Str → Option Value} {base : Heap} {N ps : List Str} {qual : Str} {scope : Scope} {f : Addr} {cd : Value} {A : Around} {outer : List Env} {s s1 : Shared} {H : Hp} {E : XK} {us : List Value} {vs : List V}
    (S : FnScope N ps scope) (hd : A.handled = none) (e0 : Env0 P w K mg base A outer s H) (hl : vs.length = ps.length) (r : Vals vs us)
    (x : InCallC s s.heap.objs.size (bindL (envOfC qual scope s.heap.objs.size f cd).kindOf (ps.zip us) fun _ => none) (cellsFrom (s.heap.objs.size + 1) scope.names []) (bindC (envOfC qual scope s.heap.objs.size f cd).kindOf (ps.zip us) fun _ => none) s1) :
    Inv (cxOf CX P w K mg base N qual scope f cd A outer s H E) [] (start N vs) H s1 := by
  have hpl : ps.length ≤ N.length := by have := congrArg List.length S.pre; rw [List.length_take] at this; omega
  obtain ⟨h1, tk, rfl, hk⟩ := x.done
  have noA : ∀ b : Addr, b ∉ (cxOf CX P w K mg base N qual scope f cd A outer s H E).ex := fun b z => absurd (show b ∈ ([] : List Addr) from z) (by simp)
  refine ⟨⟨e0.mod, S.kind, rfl, rfl, Nat.le_refl _, fun y z c h1 h2 => ?_, fun y hy => ?_, fun y c _ h => ?_, fun _ => hd, Around.frames_deeper e0.frames, .inr ⟨rfl, rfl⟩, fun b z => absurd z (noA b), e0.bs, e0.bsz, fun b _ _ => noA b, fun b z => absurd z (noA b), e0.funs, e0.frf⟩,
    rfl, e0.bare, Un.kept hk, ⟨_, x.toInCall.ns, fun i y v h1 h2 h3 => ?_⟩, fun y c h => ⟨_, x.cell y c h⟩, e0.hok.fresh (Nat.le_refl _), fun y c h => ?_, fun p hp => absurd (show p ∈ ([] : List (Addr × Obj)) from hp) (by simp), e0.hok.kept hk, ?_⟩
  · exact name_of_addr x.apart (PySem.mem_of_lookup h1) (PySem.mem_of_lookup h2)
  · have hy : scope.names.lookup y = some .cell ∨ scope.names.lookup y = some .free := hy
    rcases hy with hy | hy
    · exact cell_has hy
    · exact absurd rfl (S.nofree _ (PySem.mem_of_lookup hy))
  · exact Nat.le_of_lt (x.above y c (PySem.mem_of_lookup h))
  · have hi : i < vs.length := by
      unfold start at h2
      by_cases hi : i < vs.length
      · exact hi
      · rw [List.getElem?_append_right (by simpa using hi)] at h2
        rw [List.getElem?_replicate] at h2
        split at h2 <;> cases h2
    have ha : vs[i]? = some v := by
      unfold start at h2
      rw [List.getElem?_append_left (by simpa using hi), List.getElem?_map] at h2
      cases e : vs[i]? with
      | none => rw [e] at h2; cases h2
      | some a => rw [e] at h2; cases h2; rfl
    obtain ⟨u, hu, rv⟩ := r.get ha
    have hp : ps[i]? = some y := by
      rw [← S.pre, List.getElem?_take_of_lt (by omega)]; exact h1
    have ndP : ps.Nodup := by rw [← S.pre]; exact S.nd.sublist (List.take_sublist _ _)
    refine ⟨u, rv, ?_⟩
    rcases S.par y (List.mem_of_getElem? hp) with k | k
    · exact .inl ⟨k, bindL_get ndP hp hu k⟩
    · obtain ⟨c, e⟩ := cell_has (n := s.heap.objs.size + 1) k
      refine .inr ⟨.inl k, c, e, ?_⟩
      have q := x.cell y c e
      rw [bindC_get ndP hp hu (by show scope.names.lookup y ≠ _; rw [k]; decide)] at q
      exact q
  · exact e0.hok.fresh (Nat.le_of_lt (x.above y c (PySem.mem_of_lookup h)))
  · unfold start
    show _ = N.length
    rw [List.length_append, List.length_map, List.length_replicate]
    omega
theorem fn_of {CX : CXT} {P : Program} {w : World} {K : PySem.W.Frag} {mg : Str → Option Value} {base : Heap} {k : Nat} {f : Addr} {name qual : Str} {params : Arguments} {body : List Stmt} {scope : Scope} {dV kV doc pm cdv ct oc : Value} {an od : Option Addr}
    {osl : Array (Option Value)} {N ps : List Str} {sp : Sp} (lk : K.lookup f = some ⟨oc, od, .func (PySem.W.fnOf name qual params body scope dV kV doc pm an cdv ct), osl⟩) (hcd : PySem.W.codeIn K cdv qual = true) (S : FnScope N ps scope)
    (len : ∀ vs H Q E, sp vs H Q E → vs.length = ps.length)
    (hbody : ∀ (A : Around) (outer : List Env) (s : Shared) (H : Hp) (vs : List V) (Q : VK) (E : XK), Room k (A.deeper (envOfC qual scope s.heap.objs.size f cdv)) → sp vs H Q E →
      ∃ t, PSs (cxOf CX P w K mg base N qual scope f cdv A outer s H E) body t ∧ t { nx := fun _ H' => Q .non H', rt := Q } (start N vs) H) :
    FnOk P w K mg base CX (k + 1) f (PySem.W.fnOf name qual params body scope dV kV doc pm an cdv ct) ps sp := by
  refine ⟨len, fun A outer s H args us vs Q E hr e0 hb r hsp => ?_⟩
  have hl := len _ _ _ _ hsp
  have KX : K.In s.heap := e0.mod.kin.keeps fun b o e => (e0.bs b o e).1
  have lim : s.heap.NoLimit := e0.mod.nolimit.keeps fun b o e => (e0.bs b o e).1
  have hkind : ∀ y ∈ ps.zip us, scope.names.lookup y.1 = some .local ∨ (scope.names.lookup y.1 = some .cell ∧ ((cellsFrom (s.heap.objs.size + 1) scope.names []).lookup y.1).isSome = true) := fun ⟨n, v⟩ hy => by
    rcases S.par n (List.of_mem_zip hy).1 with q | q
    · exact .inl q
    · exact .inr ⟨q, PySem.W.cellsFrom_some _ _ _ (.inl q)⟩
  refine codeAny_call_function hr.depth (KX _ _ lk) rfl S.co S.gen rfl (PySem.W.codeRec_of KX hcd) (hb _ _ _ _ ?_)
  refine wpAny_newFunctionEnv_cells S.kind hkind fun env he s1 x => ?_
  subst he
  refine ⟨lim.keeps x.toInCall.keep, codeAny_func ?_⟩
  obtain ⟨t, ht, hq⟩ := hbody A outer s H vs Q E (hr.deeper _) hsp
  have I : Inv (cxOf CX P w K mg base N qual scope f cdv A outer s H E) [] (start N vs) H s1 := inv_start S hr.hd e0 hl r x
  refine wpAny_mono (ht [] s1 (start N vs) H _ I hq) (fun fl s' hs => ?_) fun e s' hs => hs
  have fin : ∀ {σ' : St} {H' : Hp} {v : V} {u : Value}, Inv (cxOf CX P w K mg base N qual scope f cdv A outer s H E) [] σ' H' s' → RelV v u → Q v H' → CE outer P w H s Q u s' :=
    fun {σ' H' v u} J rv q => ⟨v, H', J.os, J.bare, J.base, J.hok, rv, q⟩
  cases fl with
  | ret u =>
    obtain ⟨v, σ', H', J, rv, q⟩ := hs
    exact fin J rv q
  | next =>
    obtain ⟨σ', H', J, q⟩ := hs
    exact fin (v := V.non) (u := Value.none) J rfl q
  | brk =>
    obtain ⟨_, _, _, q⟩ := hs
    exact False.elim q
  | cont =>
    obtain ⟨_, _, _, q⟩ := hs
    exact False.elim q
end L2
namespace L2
open PySem PySem.Spec PyProof.Rows
section
variable {X : Cx} {x : Str} {p pos : Pos} {e : Expr} {es : List Expr} {t : TA} {id T : String} {r : List V → Hp → VK → Prop}
def tCB (r : List V → Hp → VK → Prop) (t : TA) : TE := fun σ H Q => t σ H fun vs H1 => r vs H1 Q
theorem pe_callB (hc : CallR X (.builtin id) r) (hg : Gl X x) (hm : X.mg x = none) (hv : bootBuiltins x = some (.builtin id)) (ha : PA X (e :: es) t) (hn : x ≠ "__name__" := by decide) (hdb : (x == ("__debug__" : Str)) = false := by decide)
    (he : starEach (e :: es) X.env = (false, eval e X.env) :: starEach es X.env := by rfl) (hpl : (backTo pos (starEach es X.env)).any (·.1) = false := by rfl) : PE X (.Call (.Name x p) (e :: es) [] pos) (tCB r t) := by
  intro pins s σ H Q I h
  refine wpAny_Call_Name_kw (ld_blt I hg hm hv ?_ hn hdb)
  exact PyProof.Rows.callWith_builtin1 (thn (ha pos pins s σ H _ I h) fun us s1 ⟨vs, H1, I1, r1, q1⟩ => hc pins s1 σ H1 vs us Q I1 r1 q1) he hpl
theorem pe_callTy (hc : CallR X (.type T) r) (hg : Gl X x) (hm : X.mg x = none) (hv : bootBuiltins x = some (.type T)) (ha : PA X (e :: es) t) (hn : x ≠ "__name__" := by decide) (hdb : (x == ("__debug__" : Str)) = false := by decide)
    (he : starEach (e :: es) X.env = (false, eval e X.env) :: starEach es X.env := by rfl) (hpl : (backTo pos (starEach es X.env)).any (·.1) = false := by rfl) : PE X (.Call (.Name x p) (e :: es) [] pos) (tCB r t) := by
  intro pins s σ H Q I h
  refine wpAny_Call_Name_kw (ld_blt I hg hm hv ?_ hn hdb)
  exact PyProof.Rows.callWith_type1 (thn (ha pos pins s σ H _ I h) fun us s1 ⟨vs, H1, I1, r1, q1⟩ => hc pins s1 σ H1 vs us Q I1 r1 q1) he hpl
end
end L2
namespace HT
open PySem PyProof.Rows
section
open PySem.SeqAt
open PySem.AutoSeq1 (wpAny_loadPart')
open PySem.MeetsSeq PySem.MeetsSeq2 PySem.MeetsSeq3
end
section
variable {prog : Program} {w : World} {A : Around} {E : Value → Shared → Prop} {s : Shared}
theorem cat_tup {t b : Addr} {vs ws : List Value} {Q : Value → Shared → Prop} (ht : IsTup s.heap t vs.toArray) (hb : IsTup s.heap b ws.toArray) (hv : vs ≠ [])
    (h1 : ws = [] → Q (.ref t) s) (h2 : ws ≠ [] → Q (.ref s.heap.objs.size) { s with heap := s.heap.push { cls := .type "tuple", data := .seq (vs ++ ws).toArray } })
    (hsz : vs.length + ws.length ≤ sizeLine) : wpAny (model prog w) A (binaryOp .Add (.ref t) (.ref b)) Q E s := by
  obtain ⟨⟨cls, dd, data, sl⟩, ho, hc, n, hd⟩ := id ht
  obtain ⟨⟨cls2, dd2, data2, sl2⟩, ho2, hc2, n2, hd2⟩ := id hb
  simp only at hc hd hc2 hd2
  subst hc hd hc2 hd2
  have e : vs.toArray ++ ws.toArray = (vs ++ ws).toArray := by simp
  by_cases hw : ws = []
  · exact concat_meets ⟨_, ho, rfl⟩ ⟨_, ho2, rfl⟩ noFill_tuple_add seq_tuple_add PySem.F.slot_tuple_add PySem.F.entry_tuple_add (PySem.F.args_tuple_add_2 _ _)
      (tuple_addW1 t b vs.toArray ws.toArray n n2 dd dd2 sl sl2 (by simpa using hv) (by simp [hw])) ⟨ho, ho2, h1 hw⟩
  · refine concat_meets ⟨_, ho, rfl⟩ ⟨_, ho2, rfl⟩ noFill_tuple_add seq_tuple_add PySem.F.slot_tuple_add PySem.F.entry_tuple_add (PySem.F.args_tuple_add_2 _ _)
      (tuple_addW2 t b vs.toArray ws.toArray n n2 dd dd2 sl sl2 (by simpa using hv) (by simpa using hw) (by rw [List.size_toArray, List.size_toArray]; exact hsz)) ⟨ho, ho2, ?_⟩
    rw [e]
    exact h2 hw
def sIx (n d : Nat) : Option Int → Nat
  | none => d
  | some v => if v < 0 then (v + (n : Int)).toNat else min v.toNat n
end
end HT
namespace L2
open PySem PySem.Spec PyProof.Rows
abbrev TO := St → Hp → (Option Int → Hp → Prop) → Prop
def PO (X : Cx) (e : Option Expr) (t : TO) : Prop :=
  ∀ (pins : List (Addr × Obj)) (s : Shared) (σ : St) (H : Hp) (Q : Option Int → Hp → Prop), Inv X pins σ H s → t σ H Q →
    wpAny (model X.prog X.w) X.A (evalPart e X.env) (fun u s' => ∃ o H', Inv X pins σ H' s' ∧ IsPart u o ∧ Q o H') X.xe s
def tNoPart : TO := fun _ H Q => Q none H
def tPart (t : TE) : TO := fun σ H Q => t σ H fun x H1 => ∃ i, x = .int i ∧ Q (some i) H1
section
variable {X : Cx} {e : Expr} {te : TE} {lo hi : Option Expr} {tl th : TO} {pos p2 : Pos}
theorem po_none : PO X none tNoPart := by
  intro pins s σ H Q I h
  rw [evalPart_none]
  exact wpAny_pure ⟨none, H, I, .none, h⟩
theorem po_some (h : PE X e te) : PO X (some e) (tPart te) := by
  intro pins s σ H Q I hw
  rw [evalPart_some]
  refine thn (h pins s σ H _ I hw) fun u s1 ⟨x, H1, I1, r1, q1⟩ => ?_
  obtain ⟨i, rfl, q⟩ := q1
  obtain ⟨t, rfl⟩ := r1
  exact ⟨some i, H1, I1, .int i t, q⟩
def SlR (X : Cx) (r : V → Option Int → Option Int → Hp → VK → Prop) : Prop :=
  ∀ (pins : List (Addr × Obj)) (s : Shared) (σ : St) (H : Hp) (x : V) (v vl vu : Value) (lo hi : Option Int) (sl : Addr) (Q : VK), Inv X pins σ H s → RelV x v → s.heap.IsSliceOf sl vl vu .none → IsPart vl lo → IsPart vu hi → r x lo hi H Q →
    ∃ T id, typeLookup (.type T) "__getitem__" = pure (some (.builtin id)) ∧ s.TypeIs v T ∧ wpAny (model X.prog X.w) X.A (getItem v (.ref sl)) (EP X pins σ Q) X.xe s
theorem SlR.or {r r' : V → Option Int → Option Int → Hp → VK → Prop} (h : SlR X r) (h' : SlR X r') : SlR X (fun x lo hi H Q => r x lo hi H Q ∨ r' x lo hi H Q) := by
  intro pins s σ H x v vl vu lo hi sl Q I rx hs pl pu q
  rcases q with q | q
  · exact h pins s σ H x v vl vu lo hi sl Q I rx hs pl pu q
  · exact h' pins s σ H x v vl vu lo hi sl Q I rx hs pl pu q
def tSl (r : V → Option Int → Option Int → Hp → VK → Prop) (te : TE) (tl th : TO) : TE := fun σ H Q => te σ H fun x H1 => tl σ H1 fun l H2 => th σ H2 fun u H3 => r x l u H3 Q
theorem pe_slice {r : V → Option Int → Option Int → Hp → VK → Prop} (hr : SlR X r) (he : PE X e te) (hl : PO X lo tl) (hu : PO X hi th) : PE X (.Subscript e (.Slice lo hi none p2) pos) (tSl r te tl th) := by
  intro pins s σ H Q I h
  refine Subscript_ (thn (he pins s σ H _ I h) fun v s1 ⟨x, H1, I1, r1, q1⟩ => ?_)
  refine wpAny_Slice (thn (hl pins s1 σ H1 _ I1 q1) fun vl s2 ⟨l, H2, I2, pl, q2⟩ => thn (hu pins s2 σ H2 _ I2 q2) fun vu s3 ⟨u, H3, I3, pu, q3⟩ => ?_)
  rw [evalPart_none]
  refine wpAny_pure ?_
  have I4 : Inv X pins σ H3 { s3 with heap := s3.heap.push { cls := .type "slice", data := .fields #[vl, vu, .none] } } := I3.kept (t' := s3.toks) fun b ob q => Heap.get?_push_of_some _ q
  obtain ⟨T, id, hT, ht, hg⟩ := hr pins { s3 with heap := s3.heap.push { cls := .type "slice", data := .fields #[vl, vu, .none] } } σ H3 x v vl vu l u s3.heap.objs.size Q I4 r1 (Heap.IsSliceOf.new ..) pl pu q3
  show wpAny (model X.prog X.w) X.A (subscriptTail e (.Slice lo hi none p2) v (.ref s3.heap.objs.size)) (EP X pins σ Q) X.xe { s3 with heap := s3.heap.push { cls := .type "slice", data := .fields #[vl, vu, .none] } }
  exact tail_any (ops := [.ref s3.heap.objs.size, v]) ht hT hg (by with_unfolding_all rfl)
def cutV (xs : List V) (lo hi : Option Int) : List V := (xs.drop (HT.sIx xs.length 0 lo)).take (HT.sIx xs.length xs.length hi - HT.sIx xs.length 0 lo)
theorem cutV_length (xs : List V) (lo hi : Option Int) : (cutV xs lo hi).length ≤ xs.length := by
  unfold cutV
  rw [List.length_take, List.length_drop]
  omega
def rCatT (K : PySem.W.Frag) : R2 := fun x y H Q => ∃ a b xs ys, x = .ref a ∧ y = .ref b ∧ SqT K H a xs ∧ SqT K H b ys ∧ xs ≠ [] ∧ xs.length + ys.length ≤ sizeLine ∧
  (ys = [] → Q (.ref a) H) ∧ (ys ≠ [] → ∀ p, H p = none → Q (.ref p) (upd H p (.tup (xs ++ ys))))
theorem Vals.nil_iff {xs : List V} {us : List Value} (r : Vals xs us) : us = [] ↔ xs = [] := by
  cases r with
  | nil => simp
  | cons _ _ => simp
theorem op_catT : OpR X (binaryOp .Add) (rCatT X.K) := by
  intro pins s σ H x y v u Q I rx ry h
  obtain ⟨a, b, xs, ys, rfl, rfl, ha, hb, hx, hz, q1, q2⟩ := h
  cases rx
  cases ry
  obtain ⟨its, r1, p1, _⟩ := I.tuple ha
  obtain ⟨its2, r2, p2, _⟩ := I.tuple hb
  refine HT.cat_tup p1 p2 (fun z => hx (r1.nil_iff.mp z)) (fun z => ⟨.ref a, H, I, rfl, q1 (r2.nil_iff.mp z)⟩) (fun z => ?_) (by rw [← r1.length, ← r2.length]; exact hz)
  refine ⟨.ref s.heap.objs.size, _, I.laid (t' := s.toks) (o := .tup (xs ++ ys)) (fun b ob q => Heap.get?_push_of_some _ q) (Nat.le_refl _) ?_, rfl, q2 (fun w => z (r2.nil_iff.mpr w)) _ (I.hok.fresh (Nat.le_refl _))⟩
  exact ⟨by rw [List.length_append]; exact hz, _, r1.append r2, IsTup.new _ _⟩
end
end L2
namespace L2
open PySem PySem.Spec PyProof.Rows
def ixN (n : Nat) (i : Int) : Option Nat := if 0 ≤ i then (if i < n then some i.toNat else none) else if -(n : Int) ≤ i then some (i + n).toNat else none
def atI {α : Type} (xs : List α) (i : Int) : Option α := (ixN xs.length i).bind fun j => xs[j]?
theorem ixN_seq {n : Nat} {i : Int} {j : Nat} (h : ixN n i = some j) : seqIndex? i n = some j ∧ j < n ∧ -(n : Int) ≤ i ∧ i < n := by
  unfold ixN at h
  by_cases h0 : 0 ≤ i
  · rw [if_pos h0] at h
    by_cases h1 : i < n
    · rw [if_pos h1] at h
      have e : i.toNat = j := Option.some.inj h
      exact ⟨by rw [seqIndex_of h0 h1, e], by omega, by omega, h1⟩
    · rw [if_neg h1] at h; cases h
  · rw [if_neg h0] at h
    by_cases h1 : -(n : Int) ≤ i
    · rw [if_pos h1] at h
      have e : (i + n).toNat = j := Option.some.inj h
      exact ⟨by rw [seqIndex_neg (by omega) h1, e], by omega, h1, by omega⟩
    · rw [if_neg h1] at h; cases h
theorem atI_get {α : Type} {xs : List α} {i : Int} {v : α} (h : atI xs i = some v) : ∃ j, seqIndex? i xs.length = some j ∧ xs[j]? = some v ∧ j < xs.length ∧ -(xs.length : Int) ≤ i ∧ i < xs.length := by
  unfold atI at h
  cases e : ixN xs.length i with
  | none => rw [e] at h; cases h
  | some j =>
    rw [e] at h
    obtain ⟨h1, h2, h3, h4⟩ := ixN_seq e
    exact ⟨j, h1, h, h2, h3, h4⟩
theorem atI_nat {α : Type} {xs : List α} {j : Nat} {v : α} (h : xs[j]? = some v) : atI xs (j : Int) = some v := by
  have hj : j < xs.length := (List.getElem?_eq_some_iff.mp h).1
  have e : ixN xs.length (j : Int) = some j := by
    unfold ixN
    rw [if_pos (by omega), if_pos (by omega)]; simp
  unfold atI; rw [e]; exact h
def PlainIx (b : Expr) : Prop := ∀ o i, subscripted b false o i = operate [o, i] (getItem o i)
def IxR (X : Cx) (r : R2) : Prop :=
  ∀ (value slice : Expr) (pins : List (Addr × Obj)) (s : Shared) (σ : St) (H : Hp) (x y : V) (v u : Value) (Q : VK), Inv X pins σ H s → RelV x v → RelV y u → r x y H Q →
    subscripted slice false v u = operate [v, u] (getItem v u) → wpAny (model X.prog X.w) X.A (subscriptTail value slice v u) (EP X pins σ Q) X.xe s
def MtR (X : Cx) (id : String) (r : V → List V → Hp → VK → Prop) : Prop :=
  ∀ (pins : List (Addr × Obj)) (s : Shared) (σ : St) (H : Hp) (x : V) (xs : List V) (v : Value) (us : List Value) (Q : VK), Inv X pins σ H s → RelV x v → Vals xs us → r x xs H Q →
    wpAny (model X.prog X.w) X.A (call (.builtin id) (v :: us)) (EP X pins σ Q) X.xe s
section
variable {X : Cx} {a b : Expr} {ta tb : TE} {pos : Pos}
theorem IxR.or {r r' : R2} (h : IxR X r) (h' : IxR X r') : IxR X (fun x y H Q => r x y H Q ∨ r' x y H Q) := by
  intro value slice pins s σ H x y v u Q I rx ry q hs
  rcases q with q | q
  · exact h value slice pins s σ H x y v u Q I rx ry q hs
  · exact h' value slice pins s σ H x y v u Q I rx ry q hs
theorem MtR.or {id : String} {r r' : V → List V → Hp → VK → Prop} (h : MtR X id r) (h' : MtR X id r') : MtR X id (fun x xs H Q => r x xs H Q ∨ r' x xs H Q) := by
  intro pins s σ H x xs v us Q I rx rs q
  rcases q with q | q
  · exact h pins s σ H x xs v us Q I rx rs q
  · exact h' pins s σ H x xs v us Q I rx rs q
theorem pe_ix {r : R2} (hr : IxR X r) (ha : PE X a ta) (hb : PE X b tb) (hs : PlainIx b) : PE X (.Subscript a b pos) (tOp r ta tb) := by
  intro pins s σ H Q I h
  exact Subscript_ (binT ha hb I h fun v u s2 x y H2 I2 rx ry q => hr a b pins s2 σ H2 x y v u Q I2 rx ry q (hs _ _))
def rIxL (K : PySem.W.Frag) : R2 := fun x y H Q => ∃ p xs i v, x = .ref p ∧ y = .int i ∧ SqL K H p xs ∧ atI xs i = some v ∧ Q v H
def rIxT (K : PySem.W.Frag) : R2 := fun x y H Q => ∃ p xs i v, x = .ref p ∧ y = .int i ∧ SqT K H p xs ∧ atI xs i = some v ∧ Q v H
def rIxS : R2 := fun x y H Q => ∃ z i c, x = .str z ∧ y = .int i ∧ z.length ≤ sizeLine ∧ atI z.cps.toList i = some c ∧ Q (.str ⟨#[c]⟩) H
theorem ix_list : IxR X (rIxL X.K) := by
  intro value slice pins s σ H x y v u Q I rx ry h hs
  obtain ⟨p, xs, i, z, rfl, rfl, hq, he, q⟩ := h
  cases rx
  obtain ⟨t, rfl⟩ := ry
  obtain ⟨its, r, pl, hz⟩ := I.list hq
  obtain ⟨j, h1, h2, h3, h4, h5⟩ := atI_get he
  obtain ⟨w, ew, rw'⟩ := r.get h2
  have hl := r.length
  have hn := line63
  have fin : EP X pins σ Q w s := ⟨z, H, I, rw', q⟩
  by_cases h0 : 0 ≤ i
  · have hj : i.toNat = j := by
      rw [seqIndex_of h0 h5] at h1
      exact Option.some.inj h1
    exact item_listR pl.isList h0 (by omega) (by rw [hj]; simpa using ew) fin hs
  · have hj : (i + (its.toArray.size : Int)).toNat = j := by
      rw [seqIndex_neg (by omega) h4] at h1
      rw [List.size_toArray, ← hl]
      exact Option.some.inj h1
    exact subscriptTail_builtinR (x := w) pl.isList.typeIs slot_list_getitem.lookup
      (wpAny_getItem_list_neg (Q := fun r s' => r = w ∧ EP X pins σ Q r s') pl.isList (by omega) (by rw [List.size_toArray] <;> omega) (by omega) (by rw [hj]; simpa using ew) ⟨rfl, fin⟩) hs
theorem ix_tup : IxR X (rIxT X.K) := by
  intro value slice pins s σ H x y v u Q I rx ry h hs
  obtain ⟨p, xs, i, z, rfl, rfl, hq, he, q⟩ := h
  cases rx
  obtain ⟨t, rfl⟩ := ry
  obtain ⟨its, r, pl, hz⟩ := I.tuple hq
  obtain ⟨j, h1, h2, h3, h4, h5⟩ := atI_get he
  obtain ⟨w, ew, rw'⟩ := r.get h2
  have hl := r.length
  have hn := line63
  have fin : EP X pins σ Q w s := ⟨z, H, I, rw', q⟩
  exact subscriptTail_builtinR (x := w) pl.typeIs slot_tuple_getitem.lookup
    (getItem_tuple (j := j) (Q := fun r s' => r = w ∧ EP X pins σ Q r s') pl (by omega) (by omega) (by rw [List.size_toArray, ← hl]; exact h1) (by simpa using ew) ⟨rfl, fin⟩) hs
theorem ix_str : IxR X rIxS := by
  intro value slice pins s σ H x y v u Q I rx ry h hs
  obtain ⟨z, i, c, rfl, rfl, hz, he, q⟩ := h
  obtain ⟨t, rfl⟩ := rx
  obtain ⟨t', rfl⟩ := ry
  obtain ⟨j, h1, h2, h3, h4, h5⟩ := atI_get he
  have hl : z.cps.toList.length = z.length := by simp [Str.length]
  rw [hl] at h1 h4 h5
  have hn := line63
  exact tail_any (typeIs_str s z t) slot_str_getitem.lookup (getItem_str (c := c) (by
    have e1 : decide (i < -(2 ^ 63 : Int)) = false := decide_eq_false (by omega)
    have e2 : decide (i ≥ 2 ^ 63) = false := decide_eq_false (by omega)
    rw [e1, e2, Bool.or_false]) (by rw [h1]; simpa using h2) ⟨.str ⟨#[c]⟩, H, I.tok _, ⟨_, rfl⟩, q⟩) hs
def rIx (K : PySem.W.Frag) : R2 := fun x y H Q => rIxL K x y H Q ∨ rIxT K x y H Q ∨ rIxS x y H Q
theorem ix_seq : IxR X (rIx X.K) := ix_list.or (ix_tup.or ix_str)
theorem mapSeq_set (its : List Value) (n j : Nat) (u : Value) : Obj.mapSeq (·.setIfInBounds j u) { cls := .type "list", data := .seq its.toArray n } = { cls := .type "list", data := .seq (its.set j u).toArray n } := by
  simp [Obj.mapSeq]
theorem Inv.lst {pins : List (Addr × Obj)} {σ : St} {H : Hp} {s : Shared} {p : Addr} {xs : List V} (I : Inv X pins σ H s) (h : H p = some (.lst xs)) :
    ∃ (its : List Value) (n : Nat), Vals xs its ∧ s.heap.get? p = some { cls := .type "list", data := .seq its.toArray n } ∧ xs.length ≤ sizeLine := by
  obtain ⟨z, its, n, r, e⟩ := I.hok p _ h
  exact ⟨its, n, r, e, z⟩
theorem Inv.lstUpd {pins : List (Addr × Obj)} {σ : St} {H : Hp} {s : Shared} {p : Addr} {xs ys : List V} {its its' : List Value} {n n' : Nat} {f : Obj → Obj} (I : Inv X pins σ H s) (h : H p = some (.lst xs))
    (ho : s.heap.get? p = some { cls := .type "list", data := .seq its.toArray n }) (hf : f { cls := .type "list", data := .seq its.toArray n } = { cls := .type "list", data := .seq its'.toArray n' }) (r : Vals ys its') (hz : ys.length ≤ sizeLine) (t : Nat) :
    Inv X pins σ (upd H p (.lst ys)) { s with heap := s.heap.update p f, toks := t } := by
  have e : (s.heap.update p f).get? p = some { cls := .type "list", data := .seq its'.toArray n' } := by
    rw [Heap.get?_update_self f ho (by rw [hf] <;> rfl), hf]
  refine I.write (x := p) (e := p) (by rw [h]; trivial) (.inl rfl) (fun b u hb q => (Heap.get?_update_other _ _ (Ne.symm hb)).trans q) ⟨_, e⟩ ?_
  exact ⟨hz, its', n', r, e⟩
def rSetL : V → V → V → Hp → (Hp → Prop) → Prop := fun o i v H Q => ∃ p xs k j, o = .ref p ∧ i = .int k ∧ H p = some (.lst xs) ∧ ixN xs.length k = some j ∧ Q (upd H p (.lst (xs.set j v)))
theorem set_list : PSet X rSetL := by
  intro pins s σ H o i v ov iv u Q I ro ri rv h
  obtain ⟨p, xs, k, j, rfl, rfl, hp, hj, q⟩ := h
  cases ro
  obtain ⟨t, rfl⟩ := ri
  obtain ⟨its, n, r, ho, hz⟩ := I.lst hp
  obtain ⟨h1, h2, h3, h4⟩ := ixN_seq hj
  have hl := r.length
  have hn := line63
  have I' : Inv X pins σ (upd H p (.lst (xs.set j v))) { s with heap := s.heap.update p (Obj.mapSeq (·.setIfInBounds j u)) } :=
    I.lstUpd hp ho (mapSeq_set its n j u) (r.set rv j) (by rw [List.length_set]; exact hz) s.toks
  by_cases h0 : 0 ≤ k
  · have hk : k.toNat = j := by
      rw [seqIndex_of h0 h4] at h1
      exact Option.some.inj h1
    exact PySem.W.ki_setAt ho h0 (by omega) (by rw [List.size_toArray, ← hl]; exact h4) (by rw [hk]; exact ⟨_, I', q⟩)
  · have hk : (k + (its.toArray.size : Int)).toNat = j := by
      rw [seqIndex_neg (by omega) h3] at h1
      rw [List.size_toArray, ← hl]
      exact Option.some.inj h1
    exact PySem.W.ki_setBack ho (by omega) (by rw [List.size_toArray, ← hl]; exact h3) (by omega) (by rw [hk]; exact ⟨_, I', q⟩)
theorem slice_bounds (lo hi : Option Int) (n : Nat) : (sliceBounds lo hi none n).1 = ((HT.sIx n 0 lo : Nat) : Int) ∧ (sliceBounds lo hi none n).2.1 = ((HT.sIx n n hi : Nat) : Int) ∧ (sliceBounds lo hi none n).2.2 = 1 := by
  refine ⟨?_, ?_, rfl⟩
  · cases lo with
    | none => simp [sliceBounds, HT.sIx]
    | some i =>
      simp only [sliceBounds, HT.sIx, Option.getD_none, show (1 : Int) > 0 by decide, if_true]
      by_cases h : i < 0
      · simp only [h, if_true] <;> omega
      · simp only [h, if_false] <;> omega
  · cases hi with
    | none => simp [sliceBounds, HT.sIx]
    | some i =>
      simp only [sliceBounds, HT.sIx, Option.getD_none, show (1 : Int) > 0 by decide, if_true]
      by_cases h : i < 0
      · simp only [h, if_true] <;> omega
      · simp only [h, if_false] <;> omega
theorem slicePick_cut (its : List Value) (lo hi : Option Int) : slicePick its.toArray lo hi none = ((its.drop (HT.sIx its.length 0 lo)).take (HT.sIx its.length its.length hi - HT.sIx its.length 0 lo)).toArray := by
  obtain ⟨h1, h2, h3⟩ := slice_bounds lo hi its.toArray.size
  unfold slicePick
  rw [h1, h2, h3]
  simp only [sliceRange_one, pick_run, List.size_toArray] <;> rfl
def rSlL (K : PySem.W.Frag) : V → Option Int → Option Int → Hp → VK → Prop := fun x lo hi H Q => ∃ a xs, x = .ref a ∧ SqL K H a xs ∧ ∀ p, H p = none → Q (.ref p) (upd H p (.lst (cutV xs lo hi)))
theorem sl_list : SlR X (rSlL X.K) := by
  intro pins s σ H x v vl vu lo hi sl Q I rx hs pl pu h
  obtain ⟨a, xs, rfl, hx, q⟩ := h
  cases rx
  obtain ⟨its, r, ht, hz⟩ := I.list hx
  have hlen := r.length
  refine ⟨"list", _, slot_list_getitem.lookup, ht.isList.typeIs, ?_⟩
  refine wpAny_getItem_list_slice ht.isList hs pl pu .none (by simp) ?_ (by rw [List.size_toArray] <;> omega)
  rw [slicePick_cut, ← hlen]
  refine ⟨.ref s.heap.objs.size, _, I.laid (t' := s.toks) (o := .lst (cutV xs lo hi)) (fun b ob q => Heap.get?_push_of_some _ q) (Nat.le_refl _) ?_, rfl, q _ (I.hok.fresh (Nat.le_refl _))⟩
  exact ⟨Nat.le_trans (cutV_length xs lo hi) hz, _, 0, (r.drop (HT.sIx xs.length 0 lo)).take (HT.sIx xs.length xs.length hi - HT.sIx xs.length 0 lo), Heap.get?_push_size _ rfl⟩
theorem call_len_seq : CallR X (.builtin "len") (fun xs H Q => ∃ p ys, xs = [.ref p] ∧ (SqL X.K H p ys ∨ SqT X.K H p ys) ∧ Q (.int ys.length) H) := by
  intro pins s σ H xs us Q I r h
  obtain ⟨p, ys, rfl, hq, q⟩ := h
  obtain ⟨u, rfl, rx⟩ := vals1 r
  cases rx
  have hn := line63
  rcases hq with hq | hq
  · obtain ⟨its, r', pl, hz⟩ := I.list hq
    have hlen := r'.length
    exact Calls.call_len_list pl.isList (by simp only [List.size_toArray] <;> omega) ⟨.int ys.length, H, I.tok _, ⟨s.toks + 1, by rw [List.size_toArray, hlen]⟩, q⟩
  · obtain ⟨its, r', pl, hz⟩ := I.tuple hq
    have hlen := r'.length
    exact len_tuple pl (by simp only [List.size_toArray] <;> omega) ⟨.int ys.length, H, I.tok _, ⟨s.toks + 1, by rw [List.size_toArray, hlen]⟩, q⟩
theorem call_len_str : CallR X (.builtin "len") (fun xs H Q => ∃ z, xs = [.str z] ∧ z.length ≤ sizeLine ∧ Q (.int z.length) H) := by
  intro pins s σ H xs us Q I r h
  obtain ⟨z, rfl, hz, q⟩ := h
  obtain ⟨u, rfl, t, rfl⟩ := vals1 r
  have hn := line63
  exact len_str (by omega) ⟨.int z.length, H, I.tok _, ⟨_, rfl⟩, q⟩
theorem CallR.or {f : Value} {r r' : List V → Hp → VK → Prop} (h : CallR X f r) (h' : CallR X f r') : CallR X f (fun xs H Q => r xs H Q ∨ r' xs H Q) := by
  intro pins s σ H xs us Q I rs q
  rcases q with q | q
  · exact h pins s σ H xs us Q I rs q
  · exact h' pins s σ H xs us Q I rs q
theorem call_list_of : CallR X (.type "list") (fun xs H Q => ∃ p ys, xs = [.ref p] ∧ (SqL X.K H p ys ∨ SqT X.K H p ys) ∧ ∀ l, H l = none → Q (.ref l) (upd H l (.lst ys))) := by
  intro pins s σ H xs us Q I r h
  obtain ⟨p, ys, rfl, hq, q⟩ := h
  obtain ⟨u, rfl, rx⟩ := vals1 r
  cases rx
  have fin : ∀ (its : List Value), Vals ys its → ys.length ≤ sizeLine → ∀ (h' : Heap) (c' : Nat), (∀ b o', s.heap.get? b = some o' → h'.get? b = some o') →
      h'.get? s.heap.objs.size = some { cls := .type "list", dict := none, data := .seq its.toArray c', slots := #[] } → EP X pins σ Q (.ref s.heap.objs.size) { s with heap := h' } := fun its r' hz h' c' kp e =>
    ⟨.ref s.heap.objs.size, _, I.laid (t' := s.toks) kp (Nat.le_refl _) (show ObjOk X.prog X.w _ h' _ (.lst ys) from ⟨hz, its, c', r', e⟩), rfl, q _ (I.hok.fresh (Nat.le_refl _))⟩
  rcases hq with hq | hq
  · obtain ⟨its, r', pl, hz⟩ := I.list hq
    have hlen := r'.length
    obtain ⟨o, ho, hc, n, hd⟩ := pl.isList
    exact call_list_seq p (.inl rfl) ho hc hd (fun h' c' kp e => fin its r' hz h' c' kp e) (by simp only [List.size_toArray] <;> omega)
  · obtain ⟨its, r', pl, hz⟩ := I.tuple hq
    have hlen := r'.length
    obtain ⟨o, ho, hc, n, hd⟩ := pl
    exact call_list_seq p (.inr rfl) ho hc hd (fun h' c' kp e => fin its r' hz h' c' kp e) (by simp only [List.size_toArray] <;> omega)
theorem call_tuple_of : CallR X (.type "tuple") (fun xs H Q => ∃ p ys, xs = [.ref p] ∧ ((SqL X.K H p ys ∧ ∀ l, H l = none → Q (.ref l) (upd H l (.tup ys))) ∨ (SqT X.K H p ys ∧ Q (.ref p) H))) := by
  intro pins s σ H xs us Q I r h
  obtain ⟨p, ys, rfl, h⟩ := h
  obtain ⟨u, rfl, rx⟩ := vals1 r
  cases rx
  rcases h with ⟨hq, q⟩ | ⟨hq, q⟩
  · obtain ⟨its, r', pl, hz⟩ := I.list hq
    have hlen := r'.length
    refine call_tuple_list pl.isList (fun h' kp => ?_) (by simp only [List.size_toArray] <;> omega)
    have I1 : Inv X pins σ H { s with heap := h' } := I.kept (t' := s.toks) kp
    have I2 : Inv X pins σ (upd H h'.objs.size (.tup ys)) { s with heap := h'.push { cls := .type "tuple", data := .seq its.toArray } } :=
      I1.laid (t' := s.toks) (fun b o e => Heap.get?_push_of_some _ e) (Nat.le_refl _) (show ObjOk X.prog X.w _ _ _ (.tup ys) from ⟨hz, its, r', IsTup.new _ _⟩)
    exact ⟨.ref h'.objs.size, _, I2, rfl, q _ (I1.hok.fresh (Nat.le_refl _))⟩
  · obtain ⟨its, r', pl, hz⟩ := I.tuple hq
    exact call_tuple_same pl ⟨.ref p, H, I, rfl, q⟩
def tyV (K : PySem.W.Frag) (T : String) (x : V) (H : Hp) : Prop := match x with
  | .str _ => T = "str"
  | .int _ => T = "int"
  | .ref p => (T = "list" ∧ ∃ xs, SqL K H p xs) ∨ (T = "tuple" ∧ ∃ o, K.lookup p = some o ∧ o.cls = .type "tuple" ∧ o.dict = none) ∨
      (T = "dict" ∧ ((∃ kvs, H p = some (.dK kvs)) ∨ ∃ kvs, H p = some (.dT kvs))) ∨ (T = "set" ∧ ∃ S n, H p = some (.set S n))
  | _ => False
theorem tyV_is {pins : List (Addr × Obj)} {σ : St} {H : Hp} {s : Shared} {T : String} {x : V} {v : Value} (I : Inv X pins σ H s) (r : RelV x v) (ty : tyV X.K T x H) :
    s.TypeIs v T ∧ ∀ a, v = .ref a → ∃ ob, s.heap.get? a = some ob ∧ ob.dict = none := by
  cases x with
  | str z =>
    obtain ⟨t, rfl⟩ := r
    cases (show T = "str" from ty)
    exact ⟨typeIs_str s z t, fun _ e => nomatch e⟩
  | int i =>
    obtain ⟨t, rfl⟩ := r
    cases (show T = "int" from ty)
    exact ⟨typeIs_int s i t, fun _ e => nomatch e⟩
  | ref p =>
    cases r
    rcases ty with ⟨rfl, xs, hq⟩ | ⟨rfl, o, hk, hc, hd⟩ | ⟨rfl, hk⟩ | ⟨rfl, S, n, hk⟩
    · obtain ⟨its, _, pl, _⟩ := I.list hq
      refine ⟨pl.isList.typeIs, fun a e => ?_⟩
      cases e
      obtain ⟨o, n, e, c, hd, _⟩ := pl
      exact ⟨o, e, hd⟩
    · refine ⟨⟨o, I.kIn p o hk, hc⟩, fun a e => ?_⟩
      cases e
      exact ⟨o, I.kIn _ o hk, hd⟩
    · have z : ∃ o, s.heap.get? p = some o ∧ o.ExactDict := by
        rcases hk with ⟨kvs, hk⟩ | ⟨kvs, hk⟩
        · obtain ⟨_, _, _, _, o, _, _, e, ex, _⟩ := I.hok p _ hk
          exact ⟨o, e, ex⟩
        · obtain ⟨_, _, _, _, o, _, _, e, ex, _⟩ := I.hok p _ hk
          exact ⟨o, e, ex⟩
      obtain ⟨o, e, ex⟩ := z
      refine ⟨⟨o, e, ex.1⟩, fun a e2 => ?_⟩
      cases e2
      exact ⟨o, e, ex.2.1⟩
    · obtain ⟨o, _, _, _, e, ex, _⟩ := I.hok p _ hk
      refine ⟨⟨o, e, ex.1⟩, fun a e2 => ?_⟩
      cases e2
      exact ⟨o, e, ex.2.1⟩
  | _ => exact False.elim ty
def tBM0 (K : PySem.W.Frag) (T : String) (r : V → List V → Hp → VK → Prop) (to : TE) : TE := fun σ H Q => to σ H fun x H1 => tyV K T x H1 ∧ r x [] H1 Q
def tBM (K : PySem.W.Frag) (T : String) (r : V → List V → Hp → VK → Prop) (to : TE) (t : TA) : TE := fun σ H Q => to σ H fun x H1 => tyV K T x H1 ∧ t σ H1 fun xs H2 => r x xs H2 Q
variable {o e : Expr} {es : List Expr} {to : TE} {t : TA} {name : Str} {apos cpos : Pos} {T id : String} {r : V → List V → Hp → VK → Prop}
theorem pe_bm0 (pa : PlainAttrs T) (slot : Slot T name id) (hty : typeOf (.builtin id) = pure (.type "method_descriptor")) (hm : MtR X id r) (ho : PE X o to)
    (hbase : attributeBase o name X.env (eval o X.env) = eval o X.env := by rfl) (hline : (apos.endLine == cpos.line) = true := by rfl) : PE X (.Call (.Attribute o name apos) [] [] cpos) (tBM0 X.K T r to) := by
  intro pins s σ H Q I h
  refine wpAny_Call_method0_late hbase hline (thn (ho pins s σ H _ I h) fun v s1 ⟨x, H1, I1, r1, ty, q1⟩ => ?_)
  obtain ⟨h1, h2⟩ := tyV_is I1 r1 ty
  exact ⟨T, id, pa, slot, hty, h1, h2, Calls.callWith_builtin rfl (PySem.evalArgs_none (hm pins s1 σ H1 x [] v [] Q I1 r1 .nil q1))⟩
theorem pe_bm (pa : PlainAttrs T) (slot : Slot T name id) (hty : typeOf (.builtin id) = pure (.type "method_descriptor")) (hm : MtR X id r) (ho : PE X o to) (ha : PA X (e :: es) t)
    (hbase : attributeBase o name X.env (eval o X.env) = eval o X.env := by rfl)
    (hfew : ((backTo cpos (starEach (e :: es) X.env)).all (fun x => !x.1) && (backToKw cpos (keywordEach [] X.env)).all (fun x => x.1.isSome)
      && decide ((e :: es).length + ([] : List Keyword).length + (if ([] : List Keyword).isEmpty then 0 else 1) < 30)) = true := by rfl)
    (hline : (apos.endLine == cpos.line) = true := by rfl) (hs : starEach (e :: es) X.env = (false, eval e X.env) :: starEach es X.env := by rfl) (hplain : (backTo cpos (starEach es X.env)).any (·.1) = false := by rfl) :
    PE X (.Call (.Attribute o name apos) (e :: es) [] cpos) (tBM X.K T r to t) := by
  intro pins s σ H Q I h
  refine wpAny_Call_method_late hbase hfew hline rfl (thn (ho pins s σ H _ I h) fun v s1 ⟨x, H1, I1, r1, ty, q1⟩ => ?_)
  obtain ⟨h1, h2⟩ := tyV_is I1 r1 ty
  refine ⟨T, id, pa, slot, hty, h1, h2, ?_⟩
  have hA := ha cpos pins s1 σ H1 _ I1 q1
  rw [hs] at hA ⊢
  refine Calls.callWith_builtin (by show (false || (backTo cpos (starEach es X.env)).any (·.1)) = false; rw [hplain] <;> rfl) (Calls.evalArgs_plain ?_)
  exact thn hA fun us s2 ⟨vs, H2, I2, r2, q2⟩ => hm pins s2 σ H2 x vs v us Q I2 r1 r2 q2
end
end L2
namespace L2
open PySem PySem.Spec PyProof.Rows
def MtM (X : Cx) (id : String) (r : V → List V → Hp → VK → Prop) : Prop :=
  ∀ (pins : List (Addr × Obj)) (s : Shared) (σ : St) (H : Hp) (x : V) (xs : List V) (v : Value) (us : List Value) (Q : VK), Inv X pins σ H s → RelV x v → Vals xs us → r x xs H Q →
    wpAny (model X.prog X.w) X.A (call (.builtin id) (v :: us)) (EP X pins σ Q) X.xe s
theorem Vals.one : ∀ {x : V} {us : List Value}, Vals [x] us → ∃ u, us = [u] ∧ RelV x u
  | _, _, .cons r .nil => ⟨_, rfl, r⟩
theorem Vals.two : ∀ {x y : V} {us : List Value}, Vals [x, y] us → ∃ u v, us = [u, v] ∧ RelV x u ∧ RelV y v
  | _, _, _, .cons r (.cons q .nil) => ⟨_, _, rfl, r, q⟩
theorem Vals.zero : ∀ {us : List Value}, Vals [] us → us = []
  | _, .nil => rfl
theorem Vals.rep {xs : List V} {us : List Value} (h : Vals xs us) : ∀ k : Nat, Vals (List.replicate k xs).flatten (List.replicate k us).flatten
  | 0 => .nil
  | k + 1 => by
    rw [List.replicate_succ, List.replicate_succ, List.flatten_cons, List.flatten_cons]
    exact Vals.append h (Vals.rep h k)
theorem foldl_rep (its : List Value) : ∀ (k : Nat) (acc : List Value),
    List.foldl (fun x1 x2 => x1 ++ x2) acc.toArray (List.replicate k its.toArray) = (acc ++ (List.replicate k its).flatten).toArray
  | 0, acc => by simp
  | k + 1, acc => by
    have e : acc.toArray ++ its.toArray = (acc ++ its).toArray := by simp
    have e2 : (acc ++ its) ++ (List.replicate k its).flatten = acc ++ (List.replicate (k + 1) its).flatten := by
      rw [List.replicate_succ, List.flatten_cons, List.append_assoc]
    rw [← e2, ← foldl_rep its k (acc ++ its), ← e, List.replicate_succ, List.foldl_cons]
section
variable {X : Cx} {pins : List (Addr × Obj)} {σ : St} {H : Hp} {s : Shared} {l b : Addr} {xs ys zs : List V}
theorem Inv.lset {its its' : List Value} {n : Nat} {f : Array Value → Array Value} {t' : Nat} (I : Inv X pins σ H s) (hH : H l = some (.lst xs))
    (e : s.heap.get? l = some { cls := .type "list", data := .seq its.toArray n }) (hf : f its.toArray = its'.toArray) (hv : Vals ys its') (hz : ys.length ≤ sizeLine) :
    Inv X pins σ (upd H l (.lst ys)) { s with heap := s.heap.update l (Obj.mapSeq f), toks := t' } := by
  have q := PySem.IsL.update e f
  rw [hf] at q
  refine I.write (x := l) (e := l) (by rw [hH]; exact trivial) (.inl rfl) (fun b' u hb hu => (Heap.get?_update_other s.heap (Obj.mapSeq f) (Ne.symm hb)).trans hu) ⟨_, q⟩ ?_
  exact ⟨hz, its', _, hv, q⟩
theorem Inv.lnew {its : List Value} {t' : Nat} (I : Inv X pins σ H s) (hv : Vals ys its) (hz : ys.length ≤ sizeLine) :
    Inv X pins σ (upd H s.heap.objs.size (.lst ys)) { s with heap := s.heap.push { cls := .type "list", data := .seq its.toArray }, toks := t' } :=
  I.laid (fun _ _ q => Heap.get?_push_of_some _ q) (Nat.le_refl _) ⟨hz, its, 0, hv, Heap.get?_push_size _ rfl⟩
theorem Inv.fresh (I : Inv X pins σ H s) : H s.heap.objs.size = none := I.hok.fresh (Nat.le_refl _)
theorem Inv.lstM (I : Inv X pins σ H s) (hH : H l = some (.lst xs)) : xs.length ≤ sizeLine ∧ ∃ (its : List Value) (n : Nat), Vals xs its ∧ xs.length = its.length ∧ s.heap.get? l = some { cls := .type "list", data := .seq its.toArray n } := by
  obtain ⟨z, its, n, r, e⟩ := I.hok l _ hH
  exact ⟨z, its, n, r, r.length, e⟩
theorem notLongL {n : Nat} (h : n ≤ sizeLine) : Builtin.List.listTooLong n = false := by
  unfold Builtin.List.listTooLong
  exact decide_eq_false (by omega)
end
section
variable {X : Cx}
def rAppend : V → List V → Hp → VK → Prop := fun x vs H Q => ∃ l xs y, x = .ref l ∧ vs = [y] ∧ H l = some (.lst xs) ∧ xs.length < sizeLine ∧ Q .non (upd H l (.lst (xs ++ [y])))
theorem mt_append : MtM X "list.append" rAppend := by
  intro pins s σ H x vs v us Q I rx rv h
  obtain ⟨l, xs, y, rfl, rfl, hH, hz, q⟩ := h
  cases rx
  obtain ⟨u, rfl, ru⟩ := rv.one
  obtain ⟨z, its, n, r, hl, e⟩ := I.lstM hH
  refine call_meets F.slot_list_append ⟨_, e, rfl⟩ F.entry_list_append (F.args_list_append_2 _ _) (PySem.list_append l its.toArray n u (by rw [List.size_toArray]; omega)) ⟨e, ?_⟩
  refine ⟨.non, _, I.lset (its' := its ++ [u]) hH e (by simp) (r.append (.cons ru .nil)) ?_, rfl, q⟩
  rw [List.length_append, List.length_singleton]
  omega
def rCat : R2 := fun x y H Q => ∃ l b xs zs, x = .ref l ∧ y = .ref b ∧ H l = some (.lst xs) ∧ H b = some (.lst zs) ∧ xs.length + zs.length ≤ sizeLine ∧ ∀ p, H p = none → Q (.ref p) (upd H p (.lst (xs ++ zs)))
theorem op_cat : OpR X (binaryOp .Add) rCat := by
  intro pins s σ H x y v u Q I rx ry h
  obtain ⟨l, b, xs, zs, rfl, rfl, hH, hB, hz, q⟩ := h
  cases rx
  cases ry
  obtain ⟨z, its, n, r, hl, e⟩ := I.lstM hH
  obtain ⟨z2, its2, n2, r2, hl2, e2⟩ := I.lstM hB
  refine PySem.P.add_list e e2 ?_ (by rw [List.size_toArray, List.size_toArray]; omega)
  have ea : its.toArray ++ its2.toArray = (its ++ its2).toArray := by simp
  rw [ea]
  exact ⟨.ref _, _, I.lnew (t' := s.toks) (r.append r2) (by rw [List.length_append]; omega), rfl, q _ I.fresh⟩
def rRep : R2 := fun x y H Q => ∃ l k xs, x = .ref l ∧ y = .int k ∧ H l = some (.lst xs) ∧ -(2 ^ 63) ≤ k ∧ k < 2 ^ 63 ∧ xs.length * k.toNat ≤ sizeLine ∧
  ∀ p, H p = none → Q (.ref p) (upd H p (.lst (List.replicate k.toNat xs).flatten))
theorem len_rep {α : Type} (xs : List α) (k : Nat) : (List.replicate k xs).flatten.length = k * xs.length := by
  induction k with
  | zero => simp
  | succ k ih => rw [List.replicate_succ, List.flatten_cons, List.length_append, ih, Nat.succ_mul, Nat.add_comm]
theorem op_rep : OpR X (binaryOp .Mult) rRep := by
  intro pins s σ H x y v u Q I rx ry h
  obtain ⟨l, k, xs, rfl, rfl, hH, h1, h2, hz, q⟩ := h
  cases rx
  obtain ⟨t, rfl⟩ := ry
  obtain ⟨z, its, n, r, hl, e⟩ := I.lstM hH
  have hlen : its.toArray.size * k.toNat ≤ sizeLine := by rw [List.size_toArray, ← hl]; exact hz
  have hcap : ¬ its.toArray.size * k.toNat > (2 ^ 63 - 1) / 8 := by
    have : (sizeLine : Nat) ≤ (2 ^ 63 - 1) / 8 := by decide
    omega
  have hfit : ¬ (!Builtin.List.listFitsIndex k) = true := by
    rw [fitsIndex_both h1 h2]
    exact Bool.false_ne_true
  have hlong : ¬ Builtin.List.listTooLong (its.toArray.size * k.toNat) = true := by
    rw [notLongL hlen]
    exact Bool.false_ne_true
  have hnew : List.foldl (fun x1 x2 => x1 ++ x2) #[] (List.replicate (if its.toArray.isEmpty = true then 0 else k.toNat) its.toArray) = (List.replicate k.toNat its).flatten.toArray := by
    have f0 : ∀ m : Nat, List.foldl (fun x1 x2 => x1 ++ x2) #[] (List.replicate m its.toArray) = (List.replicate m its).flatten.toArray := fun m => by
      have := foldl_rep its m []
      rw [List.nil_append] at this
      exact this
    rw [f0]
    cases its with
    | nil => simp
    | cons a r' => rw [if_neg (by simp)]
  refine wpAny_binaryOp_repeat_ref (T := "list") (U := "int") (by decide) ⟨_, e, rfl⟩ (fun s' => typeIs_int s' k t) noFill_list_mul F.fills_int_mul F.slot_int_rmul repeat_list F.slot_int_index.lookup
    (call_meets F.slot_int_rmul (typeIs_int s k t) F.entry_int_rmul (F.args_int_rmul_2 _ _) (int___rmul___int_list k t l its.toArray n)
      ⟨e, rfl, ⟨_, e, rfl⟩, call_meets F.slot_list_mul ⟨_, e, rfl⟩ F.entry_list_mul (F.args_list_mul_2 _ _) (AutoListH.list___mul___list_int_3 l its.toArray n k t hfit hcap hlong) ⟨e, ?_⟩⟩)
  rw [hnew]
  exact ⟨.ref _, _, I.lnew (t' := s.toks) (r.rep k.toNat) (by rw [len_rep, Nat.mul_comm]; exact hz), rfl, q _ I.fresh⟩
end
section
variable {prog : Program} {w : World} {A : Around} {E : Value → Shared → Prop} {s : Shared}
end
section
variable {X : Cx}
end
end L2
namespace L2
open PySem PySem.Spec PyProof.Rows
section
variable {κ : Type} [DecidableEq κ]
def valV (kvs : List (κ × V)) (k : κ) : Option V := (kvs.find? fun kv => decide (kv.1 = k)).map (·.2)
def putK (kvs : List (κ × V)) (k : κ) (v : V) : List (κ × V) :=
  if (kvs.any fun kv => decide (kv.1 = k)) = true then kvs.map (fun kv => if kv.1 = k then (kv.1, v) else kv) else kvs ++ [(k, v)]
def dropK (kvs : List (κ × V)) (k : κ) : List (κ × V) := kvs.filter fun kv => decide (kv.1 ≠ k)
theorem valV_pos {p : κ × V} {r : List (κ × V)} {k : κ} (e : p.1 = k) : valV (p :: r) k = some p.2 := by simp [valV, List.find?_cons, e]
theorem valV_neg {p : κ × V} {r : List (κ × V)} {k : κ} (e : ¬ p.1 = k) : valV (p :: r) k = valV r k := by simp [valV, List.find?_cons, e]
theorem valV_any (k : κ) : ∀ kvs : List (κ × V), (kvs.any fun kv => decide (kv.1 = k)) = (valV kvs k).isSome
  | [] => rfl
  | p :: r => by
    rw [List.any_cons]
    by_cases e : p.1 = k
    · simp only [valV_pos e, decide_eq_true e, Bool.true_or, Option.isSome_some]
    · rw [valV_neg e, decide_eq_false e, Bool.false_or]; exact valV_any k r
theorem valV_map (k j : κ) (y : V) : ∀ kvs : List (κ × V), valV (kvs.map fun kv => if kv.1 = k then (kv.1, y) else kv) j = (valV kvs j).map fun x => if j = k then y else x
  | [] => rfl
  | p :: r => by
    have ih := valV_map k j y r
    rw [List.map_cons]
    by_cases h : p.1 = k
    · rw [if_pos h]
      by_cases e : p.1 = j
      · rw [valV_pos (p := (p.1, y)) e, valV_pos e, Option.map_some, if_pos (e.symm.trans h)]
      · rw [valV_neg (p := (p.1, y)) e, valV_neg e, ih]
    · rw [if_neg h]
      by_cases e : p.1 = j
      · rw [valV_pos (p := p) e, valV_pos e, Option.map_some, if_neg (fun z => h (e.trans z))]
      · rw [valV_neg (p := p) e, valV_neg e, ih]
theorem valV_snoc (k j : κ) (y : V) : ∀ kvs : List (κ × V), valV kvs k = none → valV (kvs ++ [(k, y)]) j = if j = k then some y else valV kvs j
  | [], _ => by
    by_cases e : k = j
    · rw [if_pos e.symm]; exact valV_pos (p := (k, y)) e
    · rw [if_neg (fun z => e z.symm)]; exact valV_neg (p := (k, y)) e
  | p :: r, hn => by
    rw [List.cons_append]
    have hk : ¬ p.1 = k := fun z => by rw [valV_pos z] at hn; cases hn
    rw [valV_neg hk] at hn
    have ih := valV_snoc k j y r hn
    by_cases e : p.1 = j
    · rw [valV_pos e, valV_pos e, if_neg (fun z => hk (e.trans z))]
    · rw [valV_neg e, valV_neg e, ih]
theorem valV_put (kvs : List (κ × V)) (k j : κ) (y : V) : valV (putK kvs k y) j = if j = k then some y else valV kvs j := by
  unfold putK
  by_cases a : (kvs.any fun kv => decide (kv.1 = k)) = true
  · rw [if_pos a, valV_map]
    rw [valV_any] at a
    by_cases e : j = k
    · obtain ⟨x, hx⟩ := Option.isSome_iff_exists.mp a
      rw [if_pos e, e, hx, Option.map_some, if_pos rfl]
    · rw [if_neg e]
      cases valV kvs j with
      | none => rfl
      | some x => rw [Option.map_some, if_neg e]
  · rw [if_neg a]
    refine valV_snoc k j y kvs ?_
    rw [valV_any] at a
    cases q : valV kvs k with
    | none => rfl
    | some x => rw [q] at a; exact (a rfl).elim
theorem length_putK (kvs : List (κ × V)) (k : κ) (v : V) : (putK kvs k v).length ≤ kvs.length + 1 := by
  unfold putK
  split
  · rw [List.length_map]; omega
  · rw [List.length_append, List.length_cons, List.length_nil]; omega
theorem RelO.isSome_eq {o : Option V} {u : Option Value} (r : RelO o u) : o.isSome = u.isSome := by
  cases o with
  | none => cases u with
    | none => rfl
    | some _ => exact (show False from r).elim
  | some _ => cases u with
    | none => exact (show False from r).elim
    | some _ => rfl
theorem RelO.getD {o : Option V} {u : Option Value} {d : V} {d' : Value} (r : RelO o u) (rd : RelV d d') : RelV (o.getD d) (u.getD d') := by
  cases o with
  | none => cases u with
    | none => exact rd
    | some _ => exact (show False from r).elim
  | some _ => cases u with
    | none => exact (show False from r).elim
    | some _ => exact r
theorem KV.val {kvs : List (κ × V)} {vs : List (κ × Value)} (r : KV kvs vs) (k : κ) : RelO (valV kvs k) (valueAt vs k) := by
  unfold KV at r
  induction r with
  | nil => exact True.intro
  | @cons p q ps qs h t ih =>
    obtain ⟨h1, h2⟩ := h
    by_cases e : p.1 = k
    · have e' : q.1 = k := h1.symm.trans e
      have b : valueAt (q :: qs) k = some q.2 := by simp [valueAt, List.find?_cons, e']
      rw [valV_pos e, b]; exact h2
    · have e' : ¬ q.1 = k := fun z => e (h1.trans z)
      have b : valueAt (q :: qs) k = valueAt qs k := by simp [valueAt, List.find?_cons, e']
      rw [valV_neg e, b]; exact ih
theorem KV.any {kvs : List (κ × V)} {vs : List (κ × Value)} (r : KV kvs vs) (k : κ) : (kvs.any fun kv => decide (kv.1 = k)) = vs.any fun kv => decide (kv.1 = k) := by
  unfold KV at r
  induction r with
  | nil => rfl
  | cons h t ih => rw [List.any_cons, List.any_cons, ih, h.1]
theorem KV.repl {kvs : List (κ × V)} {vs : List (κ × Value)} (r : KV kvs vs) (k : κ) {y : V} {u : Value} (ry : RelV y u) :
    KV (kvs.map fun kv => if kv.1 = k then (kv.1, y) else kv) (vs.map fun kv => if kv.1 = k then (kv.1, u) else kv) := by
  unfold KV at r ⊢
  induction r with
  | nil => exact .nil
  | @cons p q ps qs h t ih =>
    rw [List.map_cons, List.map_cons]
    refine .cons ?_ ih
    obtain ⟨h1, h2⟩ := h
    by_cases e : p.1 = k
    · rw [if_pos e, if_pos (h1.symm.trans e)]; exact ⟨h1, ry⟩
    · rw [if_neg e, if_neg (fun z => e (h1.trans z))]; exact ⟨h1, h2⟩
theorem KV.put {kvs : List (κ × V)} {vs : List (κ × Value)} (r : KV kvs vs) (k : κ) {y : V} {u : Value} (ry : RelV y u) : KV (putK kvs k y) (stored vs k u) := by
  unfold putK stored
  rw [r.any k]
  by_cases e : (vs.any fun kv => decide (kv.1 = k)) = true
  · rw [if_pos e, if_pos e]; exact r.repl k ry
  · rw [if_neg e, if_neg e]; exact Paired.snoc r ⟨rfl, ry⟩
theorem KV.drop {kvs : List (κ × V)} {vs : List (κ × Value)} (r : KV kvs vs) (k : κ) : KV (dropK kvs k) (without vs k) := by
  unfold KV at r ⊢
  unfold dropK without
  induction r with
  | nil => exact .nil
  | @cons p q ps qs h t ih =>
    obtain ⟨h1, h2⟩ := h
    rw [List.filter_cons, List.filter_cons]
    by_cases e : p.1 = k
    · have a : ¬ decide (p.1 ≠ k) = true := by simp [e]
      have b : ¬ decide (q.1 ≠ k) = true := by simp [h1.symm.trans e]
      rw [if_neg a, if_neg b]; exact ih
    · have e' : ¬ q.1 = k := fun z => e (h1.trans z)
      have a : decide (p.1 ≠ k) = true := by simp [e]
      have b : decide (q.1 ≠ k) = true := by simp [e']
      rw [if_pos a, if_pos b]; exact .cons ⟨h1, h2⟩ ih
theorem KV.keys {kvs : List (κ × V)} {vs : List (κ × Value)} (r : KV kvs vs) : kvs.map (·.1) = vs.map (·.1) := by
  unfold KV at r
  induction r with
  | nil => rfl
  | cons h t ih => rw [List.map_cons, List.map_cons, ih, h.1]
theorem KV.length {kvs : List (κ × V)} {vs : List (κ × Value)} (r : KV kvs vs) : kvs.length = vs.length := Paired.length r
end
theorem kV_is {P : Program} {w : World} {k : Key} {u : Value} (r : RelV (kV k) u) : (mixKind P w).is k u = true := by
  cases k with
  | inl i => obtain ⟨t, e⟩ := (show ∃ t, u = Value.int i t from r); subst e; exact mixKind_int P w i t
  | inr x => obtain ⟨t, e⟩ := (show ∃ t, u = Value.str x t from r); subst e; exact mixKind_str P w x t
theorem items_are {P : Program} {w : World} : ∀ {ks : List Key} {us : List Value}, Vals (ks.map kV) us → ItemsAre (mixKind P w) ks us
  | [], _, r => by rw [List.map_nil] at r; cases r; exact .nil
  | k :: ks, _, r => by
    rw [List.map_cons] at r
    cases r with
    | cons h t => exact .cons (kV_is h) (items_are t)
abbrev KT (H : Hp) : List (List Key × V) → List (List Key × Addr × Value) → Prop := Paired fun p q => p.1 = q.1 ∧ H q.2.1 = some (.tup (p.1.map kV)) ∧ RelV p.2 q.2.2
theorem KT.val {H : Hp} {kvs : List (List Key × V)} {xs : List (List Key × Addr × Value)} (r : KT H kvs xs) (k : List Key) : RelO (valV kvs k) ((atKey xs k).map (·.2)) := by
  induction r with
  | nil => exact True.intro
  | @cons p q ps qs h t ih =>
    obtain ⟨h1, _, h2⟩ := h
    by_cases e : p.1 = k
    · have e' : q.1 = k := h1.symm.trans e
      have b : atKey (q :: qs) k = some q.2 := by simp [atKey, List.find?_cons, e']
      rw [valV_pos e, b]; exact h2
    · have e' : ¬ q.1 = k := fun z => e (h1.trans z)
      have b : atKey (q :: qs) k = atKey qs k := by simp [atKey, List.find?_cons, e']
      rw [valV_neg e, b]; exact ih
theorem KT.repl {H : Hp} {kvs : List (List Key × V)} {xs : List (List Key × Addr × Value)} (r : KT H kvs xs) (k : List Key) {y : V} {u : Value} (ry : RelV y u) :
    KT H (kvs.map fun kv => if kv.1 = k then (kv.1, y) else kv) (xs.map (putAt k u)) := by
  induction r with
  | nil => exact .nil
  | @cons p q ps qs h t ih =>
    rw [List.map_cons, List.map_cons]
    refine .cons ?_ ih
    obtain ⟨h1, h2, h3⟩ := h
    unfold putAt
    by_cases e : p.1 = k
    · rw [if_pos e, if_pos (h1.symm.trans e)]; exact ⟨h1, h2, ry⟩
    · rw [if_neg e, if_neg (fun z => e (h1.trans z))]; exact ⟨h1, h2, h3⟩
theorem KT.put {H : Hp} {kvs : List (List Key × V)} {xs : List (List Key × Addr × Value)} (r : KT H kvs xs) (k : List Key) {b : Addr} {y : V} {u : Value} (hb : H b = some (.tup (k.map kV))) (ry : RelV y u) :
    KT H (putK kvs k y) (storedH xs k b u) := by
  have e : (kvs.any fun kv => decide (kv.1 = k)) = (atKey xs k).isSome := by
    rw [valV_any, (r.val k).isSome_eq, Option.isSome_map]
  unfold putK storedH
  rw [e]
  by_cases q : (atKey xs k).isSome = true
  · rw [if_pos q, if_pos q]; exact r.repl k ry
  · rw [if_neg q, if_neg q]; exact Paired.snoc r ⟨rfl, hb, ry⟩
theorem KT.keeps {H H' : Hp} {kvs : List (List Key × V)} {xs : List (List Key × Addr × Value)} (r : KT H kvs xs) (ht : ∀ b ys, H b = some (.tup ys) → H' b = some (.tup ys)) : KT H' kvs xs :=
  Paired.mapP r fun _ _ z => ⟨z.1, ht _ _ z.2.1, z.2.2⟩
section
variable {P : Program} {w : World} {H : Hp} {h : Heap} {a : Addr}
theorem rd_of {u : HO} (ok : HOk P w H h) (e : Rd H a u) : ObjOk P w H h a u := e.ok ok
theorem dk_rd {kvs : List (Key × V)} (ok : HOk P w H h) (e : Rd H a (.dK kvs)) : kvs.length ≤ sizeLine ∧ (a == sysModules) = false ∧ ∃ vs, KV kvs vs ∧ h.DictOf (mixKind P w) a vs :=
  show ObjOk P w H h a (.dK kvs) from rd_of ok e
theorem dk_of {kvs : List (Key × V)} (ok : HOk P w H h) (e : H a = some (.dK kvs)) : kvs.length ≤ sizeLine ∧ (a == sysModules) = false ∧ ∃ vs, KV kvs vs ∧ h.DictOf (mixKind P w) a vs := dk_rd ok (.inl e)
theorem key_of {ks : List Key} (ok : HOk P w H h) (e : H a = some (.tup (ks.map kV))) : (tupleKind (mixKind P w)).is h ks a := by
  obtain ⟨_, its, r, o, h1, h2, n, h3⟩ := (show ObjOk P w H h a (.tup (ks.map kV)) from ok a _ e)
  exact ⟨o, its.toArray, n, h1, h2, h3, by simpa using items_are r⟩
theorem dt_rd {kvs : List (List Key × V)} (ok : HOk P w H h) (e : Rd H a (.dT kvs)) : kvs.length ≤ sizeLine ∧ (a == sysModules) = false ∧
    ∃ xs, KT H kvs xs ∧ h.DictOfH (tupleKind (mixKind P w)) a xs := by
  obtain ⟨z, y, xs, r, o, es, ep, h1, h2, h3, h4, h5⟩ := (show ObjOk P w H h a (.dT kvs) from rd_of ok e)
  refine ⟨z, y, xs, r, o, es, ep, h1, h2, h3, h4, fun x hx => ?_, h5⟩
  have all : ∀ {l : List (List Key × V)} {m : List (List Key × Addr × Value)}, KT H l m → ∀ x ∈ m, (tupleKind (mixKind P w)).is h x.1 x.2.1 := by
    intro l m q
    induction q with
    | nil => intro x hx; exact nomatch hx
    | @cons p q ps qs hq t ih =>
      intro x hx
      rcases List.mem_cons.mp hx with e | hx
      · subst e
        exact key_of ok (by rw [← hq.1]; exact hq.2.1)
      · exact ih x hx
  exact all r x hx
end
def DGet (H : Hp) (a : Addr) (y : V) (r : Option V) : Prop :=
  (∃ kvs k, Rd H a (.dK kvs) ∧ y = kV k ∧ r = valV kvs k) ∨ ∃ kvs k b, Rd H a (.dT kvs) ∧ y = .ref b ∧ H b = some (.tup (k.map kV)) ∧ r = valV kvs k
def DPut (H : Hp) (a : Addr) (y v : V) (H' : Hp) : Prop :=
  (∃ kvs k, H a = some (.dK kvs) ∧ y = kV k ∧ kvs.length < sizeLine ∧ H' = upd H a (.dK (putK kvs k v))) ∨
  ∃ kvs k b, H a = some (.dT kvs) ∧ y = .ref b ∧ H b = some (.tup (k.map kV)) ∧ kvs.length < sizeLine ∧ H' = upd H a (.dT (putK kvs k v))
theorem DGet.k {H : Hp} {a : Addr} {kvs : List (Key × V)} {k : Key} (e : H a = some (.dK kvs)) : DGet H a (kV k) (valV kvs k) := .inl ⟨kvs, k, .inl e, rfl, rfl⟩
theorem DGet.t {H : Hp} {a b : Addr} {kvs : List (List Key × V)} {k : List Key} (e : H a = some (.dT kvs)) (eb : H b = some (.tup (k.map kV))) : DGet H a (.ref b) (valV kvs k) := .inr ⟨kvs, k, b, .inl e, rfl, eb, rfl⟩
theorem DPut.k {H : Hp} {a : Addr} {kvs : List (Key × V)} {k : Key} {v : V} (e : H a = some (.dK kvs)) (hl : kvs.length < sizeLine) : DPut H a (kV k) v (upd H a (.dK (putK kvs k v))) := .inl ⟨kvs, k, e, rfl, hl, rfl⟩
theorem DPut.t {H : Hp} {a b : Addr} {kvs : List (List Key × V)} {k : List Key} {v : V} (e : H a = some (.dT kvs)) (eb : H b = some (.tup (k.map kV))) (hl : kvs.length < sizeLine) :
    DPut H a (.ref b) v (upd H a (.dT (putK kvs k v))) := .inr ⟨kvs, k, b, e, rfl, eb, hl, rfl⟩
section
variable {X : Cx} {pins : List (Addr × Obj)} {σ : St} {H : Hp} {s : Shared} {a : Addr} {y v : V} {u r : Value} {o : Option V} {A : Around} {E : Value → Shared → Prop}
theorem Inv.big (I : Inv X pins σ H s) : sysModules < s.heap.objs.size := by
  have h : mainGlobals < s.heap.objs.size := (I.mod.glob.keeps I.bk).lt
  exact Nat.lt_trans (by decide) h
theorem d_getItem {Q : Value → Shared → Prop} (hu : A.units + 1 < cLine) (I : Inv X pins σ H s) (g : DGet H a y (some v)) (ry : RelV y u) (h : ∀ w' s', Inv X pins σ H s' → RelV v w' → Q w' s') :
    wpAny (model X.prog X.w) A (getItem (.ref a) u) Q E s := by
  rcases g with ⟨kvs, k, e, ey, l⟩ | ⟨kvs, k, b, e, ey, eb, l⟩
  · subst ey
    obtain ⟨z, hd, vs, rel, dd⟩ := dk_rd I.hok e
    obtain ⟨w', hw, rw'⟩ := RelO.some_of (v := v) (o := valueAt vs k) (by rw [l]; exact rel.val k)
    exact wpAny_getItem_of (kV_is ry) dd.mapOf hw (h w' _ (I.tok _) rw')
  · subst ey
    cases (show u = Value.ref b from ry)
    obtain ⟨z, hd, xs, rel, dd⟩ := dt_rd I.hok e
    obtain ⟨w', hw, rw'⟩ := RelO.some_of (v := v) (o := (atKey xs k).map (·.2)) (by rw [l]; exact rel.val k)
    obtain ⟨p, hp, hp2⟩ := Option.map_eq_some_iff.mp hw
    refine wpAny_getItem_heap (tupleKind_room_in1 hu) (key_of I.hok eb) dd hp ?_
    rw [hp2]
    exact h w' _ (I.tok _) rw'
theorem d_notIn {Q : Value → Shared → Prop} (hu : A.units + 1 < cLine) (I : Inv X pins σ H s) (g : DGet H a y o) (ry : RelV y u) (h : ∀ s', Inv X pins σ H s' → Q (.bool (!o.isSome)) s') :
    wpAny (model X.prog X.w) A (compareOp .NotIn u (.ref a)) Q E s := by
  rcases g with ⟨kvs, k, e, ey, l⟩ | ⟨kvs, k, b, e, ey, eb, l⟩
  · subst ey
    obtain ⟨z, hd, vs, rel, dd⟩ := dk_rd I.hok e
    refine wpAny_notIn_of (kV_is ry) hd dd.mapOf ?_
    rw [← (rel.val k).isSome_eq, ← l]
    exact h _ (I.tok _)
  · subst ey
    cases (show u = Value.ref b from ry)
    obtain ⟨z, hd, xs, rel, dd⟩ := dt_rd I.hok e
    refine wpAny_notIn_heap (tupleKind_room_in1 hu) (key_of I.hok eb) hd dd ?_
    have q := (rel.val k).isSome_eq
    rw [Option.isSome_map] at q
    rw [← q, ← l]
    exact h _ (I.tok _)
theorem d_write {h' : Heap} {t' : Nat} {ob : HO} (I : Inv X pins σ H s) (mu : Mut (H a)) (hs : Heap.SameBut a s.heap h') (he : ∃ q, h'.get? a = some q) (new : ObjOk X.prog X.w (upd H a ob) h' a ob) :
    Inv X pins σ (upd H a ob) { s with heap := h', toks := t' } :=
  I.write (x := a) (e := a) mu (.inl rfl) (fun b q hb z => (hs.2 b hb).trans z) he new
theorem dk_new {P : Program} {w : World} {H' : Hp} {h' : Heap} {kvs : List (Key × V)} {vs : List (Key × Value)} (z : kvs.length ≤ sizeLine) (hd : (a == sysModules) = false) (rel : KV kvs vs) (dd : h'.DictOf (mixKind P w) a vs) :
    ObjOk P w H' h' a (.dK kvs) := ⟨z, hd, vs, rel, dd⟩
end
section
variable {X : Cx} {pins : List (Addr × Obj)} {σ : St} {H : Hp} {s : Shared} {a : Addr} {kvs : List (Key × V)} {k : Key} {u : Value} {A : Around} {E : Value → Shared → Prop}
end
def NoSl (i : Expr) : Prop := ∀ ov iv, subscripted i false ov iv = operate [ov, iv] (getItem ov iv)
theorem subD_of {prog : Program} {w : World} {A : Around} {E : Value → Shared → Prop} {s : Shared} {env : Env} {value slice : Expr} {pos : Pos} {T id : String} {Q : Value → Shared → Prop}
    (hl : typeLookup (.type T) "__getitem__" = pure (some (.builtin id))) (hs : NoSl slice)
    (h : wpAny (model prog w) A (eval value env) (fun o s₁ => wpAny (model prog w) A (eval slice env) (fun i s₂ => s₂.TypeIs o T ∧ wpAny (model prog w) A (getItem o i) Q E s₂) E s₁) E s) :
    wpAny (model prog w) A (eval (.Subscript value slice pos) env) Q E s := by
  refine Subscript_ (wpAny_mono h (fun o s₁ h₁ => wpAny_mono h₁ (fun i s₂ h₂ => ?_) fun _ _ x => x) fun _ _ x => x)
  obtain ⟨hT, h₂⟩ := h₂
  unfold subscriptTail
  refine wpAny_bind ?_
  rw [getitemInPython_of_ne hT.not_modules]
  refine wpAny_bind (wpAny_specialOf hT hl ?_)
  have fin : wpAny (model prog w) A (subscripted slice false o i) (fun r s₃ => wpAny (model prog w) A (letTemporaryGo value o r >>= fun _ => pure r) Q E s₃) E s₂ := by
    rw [hs o i]
    exact wpAny_operating (wpAny_mono h₂ (fun r s₃ h₃ => wpAny_bind (wpAny_letTemporaryGo (wpAny_pure h₃))) fun _ _ x => x)
  first
    | exact wpAny_pure (wpAny_bind fin)
    | exact wpAny_bind (wpAny_pure (wpAny_bind fin))
    | exact wpAny_bind fin
theorem dict_typeIs {X : Cx} {pins : List (Addr × Obj)} {σ : St} {H : Hp} {s : Shared} {a : Addr} {y : V} {o : Option V} (I : Inv X pins σ H s) (g : DGet H a y o) : s.TypeIs (.ref a) "dict" := by
  rcases g with ⟨kvs, k, e, _, _⟩ | ⟨kvs, k, b, e, _, _, _⟩
  · obtain ⟨_, _, vs, _, dd⟩ := dk_rd I.hok e
    exact dd.typeIs
  · obtain ⟨_, _, xs, _, dd⟩ := dt_rd I.hok e
    exact dd.typeIs
def tDGet (td ty : TE) : TE := fun σ H Q => td σ H fun x H1 => ty σ H1 fun y H2 => ∃ a v, x = .ref a ∧ DGet H2 a y (some v) ∧ Q v H2
def tDNotIn (ty td : TE) : TE := fun σ H Q => ty σ H fun y H1 => td σ H1 fun x H2 => ∃ a o, x = .ref a ∧ DGet H2 a y o ∧ Q (.bl (!o.isSome)) H2
section
variable {X : Cx} {o i e value : Expr} {pos pos' tpos : Pos} {td ty tv : TE}
theorem pe_dget (hu : X.A.units + 1 < cLine) (ho : PE X o td) (hi : PE X i ty) (hs : NoSl i) : PE X (.Subscript o i pos) (tDGet td ty) := by
  intro pins s σ H Q I h
  refine subD_of PySem.F.slot_dict_getitem.lookup hs (thn (ho pins s σ H _ I h) fun u s1 ⟨x, H1, I1, rx, q1⟩ => thn (hi pins s1 σ H1 _ I1 q1) fun iv s2 ⟨y, H2, I2, ry, a, v, ex, g, q2⟩ => ?_)
  subst ex
  obtain rfl : u = Value.ref a := rx
  exact ⟨dict_typeIs I2 g, d_getItem hu I2 g ry fun w' s3 I3 rw' => ⟨v, H2, I3, rw', q2⟩⟩
theorem pc_dnotin (hu : X.A.units + 1 < cLine) (hi : PE X i ty) (ho : PE X o td) : PC X .NotIn i o (tDNotIn ty td) := by
  intro pins s σ H Q I h
  refine thn (hi pins s σ H _ I h) fun iv s1 ⟨y, H1, I1, ry, q1⟩ => thn (ho pins s1 σ H1 _ I1 q1) fun u s2 ⟨x, H2, I2, rx, a, ov, ex, g, q2⟩ => ?_
  subst ex
  obtain rfl : u = Value.ref a := rx
  exact d_notIn hu I2 g ry fun s3 I3 => ⟨.bl (!ov.isSome), H2, I3, rfl, q2⟩
end
theorem dk_empty {P : Program} {w : World} {H : Hp} (h : Heap) (hb : sysModules < h.objs.size) : ObjOk P w H (h.push { cls := .type "dict", data := .dict #[] }) h.objs.size (.dK []) :=
  ⟨Nat.zero_le _, beq_eq_false_iff_ne.mpr (Ne.symm (Nat.ne_of_lt hb)), [], .nil, Heap.DictOf.new h⟩
section
variable {X : Cx} {pos : Pos}
end
def tPairs : List (TE × TE) → St → Hp → (List (V × V) → Hp → Prop) → Prop
  | [], _, H, Q => Q [] H
  | (tk, tv) :: r, σ, H, Q => tk σ H fun x H1 => tv σ H1 fun y H2 => tPairs r σ H2 fun ps H3 => Q ((x, y) :: ps) H3
abbrev VV : List (V × V) → List (Value × Value) → Prop := Paired fun p q => RelV p.1 q.1 ∧ RelV p.2 q.2
def PPs (X : Cx) (pos : Pos) (keys : List (Option Expr)) (values : List Expr) (trs : List (TE × TE)) : Prop :=
  ∀ (pins : List (Addr × Obj)) (s : Shared) (σ : St) (H : Hp) (Q : List (V × V) → Hp → Prop), Inv X pins σ H s → tPairs trs σ H Q →
    wpAny (model X.prog X.w) X.A (evalPairs (pairTrees keys values X.env pos)) (fun vs s' => ∃ ps H', Inv X pins σ H' s' ∧ VV ps vs ∧ Q ps H') X.xe s
theorem pps_nil {X : Cx} {pos : Pos} : PPs X pos [] [] [] := fun pins s σ H Q I h => pairTrees_nil_walk ⟨[], H, I, .nil, h⟩
theorem pps_cons {X : Cx} {pos : Pos} {k v : Expr} {ks : List (Option Expr)} {vs : List Expr} {tk tv : TE} {trs : List (TE × TE)} (hk : PE X k tk) (hv : PE X v tv) (hr : PPs X pos ks vs trs) :
    PPs X pos (some k :: ks) (v :: vs) ((tk, tv) :: trs) := fun pins s σ H Q I h =>
  pairTrees_cons_walk (thn (hk pins s σ H _ I h) fun u s1 ⟨x, H1, I1, rx, q1⟩ => thn (hv pins s1 σ H1 _ I1 q1) fun w2 s2 ⟨y, H2, I2, ry, q2⟩ =>
    thn (hr pins s2 σ H2 _ I2 q2) fun ws s3 ⟨ps, H3, I3, rel, q3⟩ => ⟨(x, y) :: ps, H3, I3, .cons ⟨rx, ry⟩ rel, q3⟩)
def mergeK (kvs more : List (Key × V)) : List (Key × V) := more.foldl (fun acc kv => putK acc kv.1 kv.2) kvs
theorem KV.merge : ∀ {more : List (Key × V)} {rs : List (Key × Value)} {kvs : List (Key × V)} {vs : List (Key × Value)}, KV more rs → KV kvs vs → KV (mergeK kvs more) (merged vs rs) := by
  intro more rs kvs vs r
  unfold KV at r
  induction r generalizing kvs vs with
  | nil => intro q; exact q
  | @cons p q ps qs h t ih =>
    intro r0
    have e : KV (putK kvs p.1 p.2) (stored vs q.1 q.2) := by
      have := r0.put p.1 h.2
      rw [← h.1]; exact this
    exact ih e
theorem length_mergeK : ∀ (more kvs : List (Key × V)), (mergeK kvs more).length ≤ kvs.length + more.length
  | [], kvs => by show kvs.length ≤ kvs.length + 0; omega
  | p :: r, kvs => by
    have h1 := length_mergeK r (putK kvs p.1 p.2)
    have h2 := length_putK kvs p.1 p.2
    show (mergeK (putK kvs p.1 p.2) r).length ≤ _
    rw [List.length_cons]; omega
theorem carries_of {P : Program} {w : World} : ∀ {kvs : List (Key × V)} {ws : List (Value × Value)}, VV (kvs.map fun kv => (kV kv.1, kv.2)) ws → ∃ rs, Carries (mixKind P w) ws rs ∧ KV kvs rs
  | [], _, r => by rw [List.map_nil] at r; cases r; exact ⟨[], True.intro, .nil⟩
  | p :: kvs, _, r => by
    rw [List.map_cons] at r
    cases r with
    | @cons a b as bs h t =>
      obtain ⟨rs, c, q⟩ := carries_of (P := P) (w := w) t
      obtain ⟨b1, b2⟩ := b
      exact ⟨(p.1, b2) :: rs, ⟨kV_is h.1, rfl, c⟩, .cons ⟨rfl, h.2⟩ q⟩
def tDisp (trs : List (TE × TE)) : TE := fun σ H Q => ∀ p, H p = none → tPairs trs σ (upd H p (.dK [])) fun ps H2 => H2 p = some (.dK []) ∧ ∃ kvs : List (Key × V), ps = kvs.map (fun kv => (kV kv.1, kv.2)) ∧ kvs.length ≤ 15 ∧ Q (.ref p) (upd H2 p (.dK (mergeK [] kvs)))
theorem pe_disp {X : Cx} {pos : Pos} {keys : List (Option Expr)} {values : List Expr} {trs : List (TE × TE)} (h : PPs X pos keys values trs) (hall : keys.all (·.isSome) = true) (hl : keys.length = values.length) (h0 : keys ≠ [])
    (h15 : keys.length ≤ 15) : PE X (.Dict keys values pos) (tDisp trs) := by
  intro pins s σ H Q I q
  have hn := I.hok.fresh (Nat.le_refl s.heap.objs.size)
  have I1 := I.laid (a := s.heap.objs.size) (o := .dK []) (h' := s.heap.push { cls := .type "dict", data := .dict #[] }) (t' := s.toks) (fun _ _ q => Heap.get?_push_of_some _ q) (Nat.le_refl _) (dk_empty s.heap I.big)
  refine wpAny_Dict_walk (knd := mixKind X.prog X.w) hall hl h0 h15 (thn (h pins _ σ _ _ I1 (q _ hn)) fun ws s2 ⟨ps, H2, I2, rel, e, kvs, ep, lk, q2⟩ => ?_)
  subst ep
  obtain ⟨rs, c, rk⟩ := carries_of (P := X.prog) (w := X.w) rel
  obtain ⟨z, hd, vs0, r0, dd⟩ := dk_of I2.hok e
  cases r0
  refine ⟨rs, c, dd, fun h' dd' hs => ⟨.ref s.heap.objs.size, _, ?_, rfl, q2⟩⟩
  have hz : (mergeK [] kvs).length ≤ sizeLine := by
    have h1 := length_mergeK kvs []
    rw [List.length_nil] at h1
    rw [sizeLine_eq]; omega
  have he : ∃ q, h'.get? s.heap.objs.size = some q := let ⟨q, _, _, hq, _⟩ := dd'; ⟨q, hq⟩
  exact d_write I2 (by rw [e]; exact True.intro) hs he (dk_new hz hd (rk.merge .nil) dd')
structure M1 (X : Cx) (o : Expr) (m : Str) (apos : Pos) (e : Expr) (cpos : Pos) : Prop where
  base : attributeBase o m X.env (eval o X.env) = eval o X.env
  few : ((backTo cpos (starEach [e] X.env)).all (fun x => !x.1) && (backToKw cpos (keywordEach [] X.env)).all (fun x => x.1.isSome)
    && decide (([e] : List Expr).length + ([] : List Keyword).length + (if ([] : List Keyword).isEmpty then 0 else 1) < 30)) = true
  line : (apos.endLine == cpos.line) = true
  trees : backTo cpos (starEach [e] X.env) = [(false, eval e X.env)]
structure M2 (X : Cx) (o : Expr) (m : Str) (apos : Pos) (e f : Expr) (cpos : Pos) : Prop where
  base : attributeBase o m X.env (eval o X.env) = eval o X.env
  few : ((backTo cpos (starEach [e, f] X.env)).all (fun x => !x.1) && (backToKw cpos (keywordEach [] X.env)).all (fun x => x.1.isSome)
    && decide (([e, f] : List Expr).length + ([] : List Keyword).length + (if ([] : List Keyword).isEmpty then 0 else 1) < 30)) = true
  line : (apos.endLine == cpos.line) = true
  trees : backTo cpos (starEach [e, f] X.env) = [(false, eval e X.env), (false, eval f X.env)]
section
variable {X : Cx} {pins : List (Addr × Obj)} {σ : St} {H : Hp} {s : Shared} {a : Addr} {y d : V} {u r : Value} {o : Option V} {A : Around} {E : Value → Shared → Prop}
end
section
variable {X : Cx} {o e f : Expr} {apos cpos : Pos} {td ty tx : TE}
end
section
variable {X : Cx} {pins : List (Addr × Obj)} {σ : St} {H : Hp} {s : Shared} {a : Addr} {kvs : List (Key × V)} {A : Around} {E : Value → Shared → Prop}
end
section
variable {X : Cx} {pins : List (Addr × Obj)} {σ : St} {H : Hp} {s : Shared} {a : Addr} {y : V} {u : Value} {A : Around} {E : Value → Shared → Prop}
end
end L2
namespace Att
open PySem PySem.W PySem.Calls PyProof.Rows
theorem ints_of_wellAll {P : Params} {h : Heap} : ∀ (ns : List Int) (vs : List Value), WellAll P h vs (ns.map WData.int) → IntsAre vs ns := by
  intro ns
  induction ns with
  | nil =>
    intro vs w
    rw [List.map_nil] at w
    cases w
    exact .nil
  | cons n ns ih =>
    intro vs w
    rw [List.map_cons] at w
    cases w with
    | cons a b =>
      cases a
      exact .cons _ _ (ih _ b)
theorem script_of {l : OpenLaw} {n : Nat} (hn : l.most = some n) {P : Params} {h : Heap} {args : List WData} {vals : List Value}
    (hpre : l.row.toRowW.claim.pre args = true) (hwl : WellAll P h vals args) :
    ∃ a vs ns, vals = [Value.ref a] ∧ args = [WData.list (ns.map WData.int)] ∧ h.get? a = some { cls := .type "list", data := .seq vs.toArray } ∧ IntsAre vs ns ∧ ns.length ≤ n := by
  have hsh : WShape.hasAll [] args [.list .int] = true := (pre_splitW hpre).1
  have hc : l.pre.holds [] { args := args } = true := (pre_splitW hpre).2
  obtain ⟨d, r, rfl, h1, h2⟩ := hasAllW_cons hsh
  obtain rfl := hasAllW_nil h2
  obtain ⟨xs, rfl, h3⟩ := hasW_list h1
  obtain ⟨ns, rfl⟩ := items_int h3
  have hlen : ns.length ≤ n := by
    unfold OpenLaw.pre at hc
    have h4 : (WTm.not (.lt (.lit (.int (n : Int))) (.len (.arg 0)))).holds [] { args := [.list (ns.map .int)] } = true := by
      have h4 := (holds_andW hc).1
      rw [hn] at h4
      exact h4
    have h5 := condW_of h4 (w_not (w_lt w_lit (w_len_list (w_arg rfl))))
    rw [List.length_map] at h5
    refine Nat.le_of_not_lt fun q => ?_
    have q' : (n : Int) < ((ns.length : Nat) : Int) := by omega
    first
      | (rw [decide_eq_true q'] at h5; exact absurd h5 (by decide))
      | (simp at h5; omega)
  cases hwl with
  | cons w1 w2 =>
    cases w2
    cases w1 with
    | list ho hall => exact ⟨_, _, ns, rfl, rfl, ho, ints_of_wellAll ns _ hall, hlen⟩
theorem post_true (l : OpenLaw) (args : List WData) : l.row.toRowW.claim.post args (.bool true) args = true :=
  postW_of (r := l.row.toRowW) (X := (true == true))
    (show WShape.has [] (.bool true) .bool = true by first | rfl | decide | simp [WShape.has, WShape.arms, WShape.armsAll])
    (show (WTm.eq .res (.lit (.bool true))).value [] { args := args, res := some (.bool true), after := args } = some (.bool (true == true)) from w_eq_bool (w_res rfl) w_lit) rfl
theorem attach_call {l : OpenLaw} {n : Nat} {q : Program} {loose : List Str} {XP : (Str → Option Value) → Heap → Prop} {YP : World → Heap → Prop} {d : DefRec}
    (hn : l.most = some n) (hdf : d.params.defaults = [])
    (call : ∀ (w : World) (s₀ s₁ : Shared) (mg mb : Str → Option Value) (fa : Addr) (o : Obj) (pm cd doc : Value) (a : Addr) (vs : List Value) (ns : List Int),
      Ground q loose [] XP w s₀ mg mb s₁.heap → YP w s₁.heap →
      s₁.heap.get? fa = some o → o.data = .func (docDef d.name d.params d.body d.scope pm cd doc) → s₁.heap.CodeRec cd d.name → mg d.name = some (.ref fa) →
      s₁.heap.get? a = some { cls := .type "list", data := .seq vs.toArray } → IntsAre vs ns → ns.length ≤ n → s₁.gens = #[] →
      codeAny (model l.prog w) callerA (.call (.ref fa) ⟨[.ref a], []⟩) (fun r s' => r = .ok (.ret (.bool true)) ∧ OldK s₁.heap s'.heap ∧ s'.os = s₁.os ∧ AllBare s'.gens) s₁) :
    WalkO q loose XP YP l.row.toRowW d [] (fun f vs => PySem.call f vs) := by
  intro w s₀ s₁ mg mb G Y fa o pm cd doc dV kV ho hd hcd hD hmg hg args vals as hpre hlay hrd hwl hlo
  obtain rfl : dV = .none := Dflts.none hD hdf
  obtain rfl : kV = .none := Dflts.noKw hD
  obtain ⟨a, vs, ns, rfl, rfl, hobj, hints, hlen⟩ := script_of hn hpre hwl
  refine enter_call (codeAny_mono (call w s₀ s₁ mg mb fa o pm cd doc a vs ns G Y ho (fd_plain hd) hcd hmg hobj hints hlen hg) fun r s' hq => ?_)
  obtain ⟨rfl, h2, h3, h4⟩ := hq
  exact ⟨.inl ⟨.bool true, .bool true, [], rfl, fun _ => rfl, .bool true, post_true l _, fun _ => ⟨List.Pairwise.nil, fun _ hm => (nomatch hm)⟩⟩, h2, h3, h4⟩
section
variable {prog : Program} {w : World} {A : Around} {E : Value → Shared → Prop} {s : Shared} {K : Frag}
end
end Att
namespace L2
open PySem PySem.Spec PyProof.Rows
theorem vals_ints : ∀ {vs : List Value} {ns : List Int}, IntsAre vs ns → Vals (ns.map V.int) vs
  | _, _, .nil => .nil
  | _, _, .cons n t h => .cons ⟨t, rfl⟩ (vals_ints h)
end L2
namespace L2
open PySem PySem.Spec PyProof.Rows
end L2
namespace L2
open PySem PySem.Spec PyProof.Rows
def inClass (s : Stmt) (j : Nat) : Stmt := match s with
  | .ClassDef _ _ _ body _ _ _ _ _ _ _ => body.getD j (.Pass ⟨0, 0, 0, 0⟩)
  | _ => .Pass ⟨0, 0, 0, 0⟩
def defArgs (s : Stmt) : Arguments := match s with
  | .FunctionDef _ a _ _ _ _ _ _ _ _ => a
  | _ => { posonlyargs := [], args := [], vararg := none, kwonlyargs := [], kw_defaults := [], kwarg := none, defaults := [] }
def defBody (s : Stmt) : List Stmt := match s with
  | .FunctionDef _ _ b _ _ _ _ _ _ _ => b
  | _ => []
def defScope (s : Stmt) : Scope := match s with
  | .FunctionDef _ _ _ _ _ _ sc _ _ _ => sc
  | _ => { kind := .function, names := [], isGenerator := false, isCoroutine := false }
abbrev CX0 : CXT := fun _ _ _ _ _ _ => False
abbrev E0 : XK := fun _ _ _ => False
structure Fun (K : PySem.W.Frag) (x qual : Str) (st : Stmt) (f : Addr) (fd : FuncData) : Prop where
  ex : ∃ (oc : Value) (od : Option Addr) (kV doc pm : Value) (an : Option Addr) (cdv ct : Value) (osl : Array (Option Value)),
    fd = PySem.W.fnOf x qual (defArgs st) (defBody st) (defScope st) .none kV doc pm an cdv ct ∧ K.lookup f = some ⟨oc, od, .func fd, osl⟩ ∧ PySem.W.codeIn K cdv qual = true
  kp : PySem.W.keepIn K (.ref f) = true
section
variable {P : Program} {w : World} {K : PySem.W.Frag} {mg : Str → Option Value} {base : Heap}
theorem Fun.ok {x qual : Str} {st : Stmt} {f : Addr} {fd : FuncData} {N ps : List Str} {k : Nat} {sp : Sp} (F : Fun K x qual st f fd) (S : FnScope N ps (defScope st)) (len : ∀ vs H Q E, sp vs H Q E → vs.length = ps.length)
    (hbody : ∀ (cdv : Value) (A : Around) (outer : List Env) (s : Shared) (H : Hp) (vs : List V) (Q : VK) (E : XK), Room k (A.deeper (envOfC qual (defScope st) s.heap.objs.size f cdv)) → sp vs H Q E →
      ∃ t, PSs (cxOf CX0 P w K mg base N qual (defScope st) f cdv A outer s H E).nox (defBody st) t ∧ t { nx := fun _ H' => Q .non H', rt := Q } (start N vs) H) : FnOk P w K mg base CX0 (k + 1) f fd ps sp := by
  obtain ⟨oc, od, kV, doc, pm, an, cdv, ct, osl, rfl, lk, hcd⟩ := F.ex
  refine fn_of lk hcd S len fun A outer s H vs Q E hr hsp => ?_
  obtain ⟨t, h, q⟩ := hbody cdv A outer s H vs Q E hr hsp
  exact ⟨t, h.nox, q⟩
theorem Fun.binds {x qual : Str} {st : Stmt} {f : Addr} {fd : FuncData} {ps : List Str} (F : Fun K x qual st f fd)
    (h : ∀ (kV doc pm : Value) (an : Option Addr) (cdv ct : Value) (us : List Value), us.length = ps.length → bindArgs (PySem.W.fnOf x qual (defArgs st) (defBody st) (defScope st) .none kV doc pm an cdv ct) ⟨us, []⟩ = pure (ps.zip us)) : Binds K fd ps [] := by
  obtain ⟨oc, od, kV, doc, pm, an, cdv, ct, osl, rfl, lk, hcd⟩ := F.ex
  exact .all (h kV doc pm an cdv ct)
theorem fun_mk {x qual : Str} {st : Stmt} {f : Addr} {oc : Value} {od an : Option Addr} {osl : Array (Option Value)} {kV doc pm cdv ct : Value} (l : K.lookup f = some ⟨oc, od, .func (PySem.W.fnOf x qual (defArgs st) (defBody st) (defScope st) .none kV doc pm an cdv ct), osl⟩)
    (c : PySem.W.codeIn K cdv qual = true) (k : PySem.W.keepIn K (.ref f) = true) : Fun K x qual st f (PySem.W.fnOf x qual (defArgs st) (defBody st) (defScope st) .none kV doc pm an cdv ct) := ⟨⟨oc, od, kV, doc, pm, an, cdv, ct, osl, rfl, l, c⟩, k⟩
end
theorem small1000 {n : Nat} (h : n ≤ 1000) : n < sizeLine := Nat.lt_of_le_of_lt h (by decide)
section
variable {X : Cx}
theorem pv (i : Nat) {x : Str} {pos : Pos} (hN : X.N[i]? = some x := by rfl) (hv : Vis X.env.scope x := by first | exact Or.inl rfl | exact Or.inr (Or.inl rfl) | exact Or.inr (Or.inr rfl)) (hd : (x == ("__debug__" : Str)) = false := by decide)
    (hcd : (x == ("__classdict__" : Str)) = false := by decide) : PE X (.Name x pos) (tVar i) := pe_var hN hv hd hcd
end
theorem iteF {A B : Prop} (h : B) : if false = true then A else B := by
  rw [if_neg Bool.false_ne_true]
  exact h
theorem iteT {A B : Prop} (h : A) : if true = true then A else B := by
  rw [if_pos rfl]
  exact h
theorem ite2 {c A B : Prop} [Decidable c] (h1 : c → A) (h2 : ¬ c → B) : if c then A else B := by
  by_cases h : c
  · rw [if_pos h]
    exact h1 h
  · rw [if_neg h]
    exact h2 h
def Same (H H' : Hp) : Prop := ∀ b o, H b = some o → H' b = some o
theorem Same.refl (H : Hp) : Same H H := fun _ _ h => h
theorem Same.trans {H H1 H2 : Hp} (a : Same H H1) (b : Same H1 H2) : Same H H2 := fun c o h => b c o (a c o h)
theorem Same.free {H H' : Hp} (e : Same H H') {l : Addr} (h : H' l = Option.none) : H l = Option.none := by
  cases q : H l with
  | none => rfl
  | some o =>
    rw [e l o q] at h
    cases h
theorem Same.seq {K : PySem.W.Frag} {H H' : Hp} {a : Addr} {xs : List V} (e : Same H H') (h : SqL K H a xs) : SqL K H' a xs := by
  rcases h with (h | ⟨o, h⟩) | h
  · exact .inl (.inl (e _ _ h))
  · exact .inl (.inr ⟨o, e _ _ h⟩)
  · exact .inr h
section
variable {κ : Type} [DecidableEq κ]
end
end L2
set_option Elab.async false
set_option linter.all false
set_option maxRecDepth 100000
set_option maxHeartbeats 4000000
namespace L2
open PySem PySem.Spec PyProof.Rows
def clGo (env : Env) : List (Str × NameKind) → List (Str × Addr) → List (Str × Addr)
  | [], cs => cs
  | (n, k) :: r, cs => clGo env r (if k = NameKind.free then (n, (env.cells.lookup n).getD 0) :: cs else cs)
def clOf (scope : Scope) (env : Env) : List (Str × Addr) := clGo env scope.names []
def freeOk (scope : Scope) (env : Env) : Bool := scope.names.all fun p => p.2 != NameKind.free || (env.kindOf p.1 == some NameKind.cell || env.kindOf p.1 == some NameKind.free)
theorem clGo_run {env : Env} : ∀ (l : List (Str × NameKind)) (cs : List (Str × Addr)), (∀ p ∈ l, p.2 = NameKind.free → ∃ c, env.cells.lookup p.1 = some c) →
    (forIn l cs fun (x : Str × NameKind) (r : List (Str × Addr)) =>
      (if (x.2 == NameKind.free) = true then (do let c ← cellOf env x.1; pure (ForInStep.yield ((x.1, c) :: r))) else pure (ForInStep.yield r) : Sem (ForInStep (List (Str × Addr))))) = pure (clGo env l cs)
  | [], cs, _ => rfl
  | (n, k) :: r, cs, h => by
    rw [List.forIn_cons]
    by_cases e : k = NameKind.free
    · subst e
      obtain ⟨c, hc⟩ := h (n, .free) List.mem_cons_self rfl
      have hc' : env.cells.lookup n = some c := hc
      have q : cellOf env n = pure c := by unfold cellOf; rw [hc']
      simp only [beq_self_eq_true, if_true, q, pure_bind]
      rw [clGo_run r _ fun p hp => h p (List.mem_cons_of_mem _ hp)]
      simp [clGo, hc']
    · have e' : (k == NameKind.free) = false := by simpa using e
      simp only [e', Bool.false_eq_true, if_false, pure_bind]
      rw [clGo_run r _ fun p hp => h p (List.mem_cons_of_mem _ hp)]
      simp [clGo, e]
theorem closure_run {scope : Scope} {env : Env} (h : ∀ p ∈ scope.names, p.2 = NameKind.free → ∃ c, env.cells.lookup p.1 = some c) : closureFor scope env = pure (clOf scope env) := by
  have q := clGo_run (env := env) scope.names [] h
  have e : closureFor scope env = ((forIn scope.names [] fun (x : Str × NameKind) (r : List (Str × Addr)) =>
      (if (x.2 == NameKind.free) = true then (do let c ← cellOf env x.1; pure (ForInStep.yield ((x.1, c) :: r))) else pure (ForInStep.yield r) : Sem (ForInStep (List (Str × Addr))))) >>= fun cs => pure cs) := rfl
  rw [e, q, pure_bind]
  rfl
theorem clGo_look {env : Env} {x : Str} {c : Addr} (hc : env.cells.lookup x = some c) : ∀ (l : List (Str × NameKind)) (cs : List (Str × Addr)),
    ((x, NameKind.free) ∈ l ∨ cs.lookup x = some c) → (clGo env l cs).lookup x = some c
  | [], cs, h => by
    rcases h with h | h
    · exact absurd h (by simp)
    · exact h
  | (n, k) :: r, cs, h => by
    show (clGo env r _).lookup x = some c
    refine clGo_look hc r _ ?_
    rcases h with h | h
    · rcases List.mem_cons.mp h with e | e
      · cases e
        refine .inr ?_
        rw [if_pos rfl, List.lookup_cons, hc]
        simp
      · exact .inl e
    · refine .inr ?_
      by_cases e : k = NameKind.free
      · rw [if_pos e, List.lookup_cons]
        by_cases en : x = n
        · subst en; simp [hc]
        · have : (x == n) = false := by simpa using en
          rw [this]; exact h
      · rw [if_neg e]; exact h
theorem clGo_from {env : Env} {x : Str} {c : Addr} : ∀ (l : List (Str × NameKind)) (cs : List (Str × Addr)),
    (∀ p ∈ l, p.2 = NameKind.free → ∃ c, env.cells.lookup p.1 = some c) → (clGo env l cs).lookup x = some c → env.cells.lookup x = some c ∧ (x, NameKind.free) ∈ l ∨ cs.lookup x = some c
  | [], cs, _, h => .inr h
  | (n, k) :: r, cs, hl, h => by
    have h : (clGo env r (if k = NameKind.free then (n, (env.cells.lookup n).getD 0) :: cs else cs)).lookup x = some c := h
    rcases clGo_from r _ (fun p hp => hl p (List.mem_cons_of_mem _ hp)) h with ⟨a, b⟩ | q
    · exact .inl ⟨a, List.mem_cons_of_mem _ b⟩
    · by_cases e : k = NameKind.free
      · rw [if_pos e, List.lookup_cons] at q
        by_cases en : x = n
        · subst en
          subst e
          obtain ⟨c', hc'⟩ := hl (x, .free) List.mem_cons_self rfl
          have hc' : env.cells.lookup x = some c' := hc'
          rw [hc'] at q
          simp at q
          subst q
          exact .inl ⟨hc', List.mem_cons_self⟩
        · have : (x == n) = false := by simpa using en
          rw [this] at q
          exact .inr q
      · rw [if_neg e] at q
        exact .inr q
theorem freeOk_mem {scope : Scope} {env : Env} (h : freeOk scope env = true) {p : Str × NameKind} (hp : p ∈ scope.names) (hf : p.2 = NameKind.free) : env.kindOf p.1 = some NameKind.cell ∨ env.kindOf p.1 = some NameKind.free := by
  have q := List.all_eq_true.mp h p hp
  rw [hf] at q
  simpa using q
def cxC (X : Cx) (scope : Scope) (N' : List Str) (s : Shared) (H : Hp) (C : Addr) (fp : List Addr) : Cx :=
  { X with N := N', s₀ := s, H₀ := H, env := compEnvC scope (clOf scope X.env) C X.env, outer := X.stack, ex := fp, fn := fun _ => false, pn := [], xe := fun _ _ => False }
def seeσ (fm : List (Option Nat)) (σ : St) : St := fm.map fun o => o.bind fun i => (σ[i]?).join
structure CompSc (X : Cx) (scope : Scope) (N' : List Str) (fm : List (Option Nat)) : Prop where
  kind : scope.kind = .function
  cell : ∀ y ∈ scope.names, y.2 ≠ .cell
  names : ∀ y ∈ scope.names, y.2 = .local → scope.names.lookup y.1 = some .local
  free : freeOk scope X.env = true
  len : N'.length = fm.length
  map : ((N'.zip fm).all fun p => match p.2 with | none => true | some i => (X.N[i]? == some p.1) && (scope.names.lookup p.1 == some NameKind.free)) = true
theorem lookup_relabel {env : Env} {k : NameKind} {x : Str} : ∀ {names : List (Str × NameKind)}, (names.map fun (n, k) => if (k == NameKind.free && env.scope.kind == .function && env.kindOf n == some .cell) then (n, NameKind.cell) else (n, k)).lookup x = some k →
    names.lookup x = some k ∨ (names.lookup x = some NameKind.free ∧ k = NameKind.cell)
  | [], h => by simp at h
  | (n, j) :: r, h => by
    have ih := @lookup_relabel env k x r
    have h : List.lookup x ((if (j == NameKind.free && env.scope.kind == .function && env.kindOf n == some .cell) = true then (n, NameKind.cell) else (n, j)) :: (r.map fun (n, k) => if (k == NameKind.free && env.scope.kind == .function && env.kindOf n == some .cell) then (n, NameKind.cell) else (n, k))) = some k := h
    by_cases hc : (j == NameKind.free && env.scope.kind == .function && env.kindOf n == some .cell) = true
    · rw [if_pos hc, List.lookup_cons] at h
      rw [List.lookup_cons]
      cases hx : x == n with
      | true =>
        rw [hx] at h
        simp at h
        refine .inr ⟨?_, h.symm⟩
        have : (j == NameKind.free) = true := by
          simp only [Bool.and_eq_true] at hc
          exact hc.1.1
        have e : j = NameKind.free := by simpa using this
        rw [e]
      | false =>
        rw [hx] at h
        exact ih h
    · rw [if_neg hc, List.lookup_cons] at h
      rw [List.lookup_cons]
      cases hx : x == n with
      | true => rw [hx] at h; exact .inl h
      | false => rw [hx] at h; exact ih h
theorem relabel_free {env : Env} {x : Str} : ∀ {names : List (Str × NameKind)}, names.lookup x = some NameKind.free →
    (names.map fun (n, k) => if (k == NameKind.free && env.scope.kind == .function && env.kindOf n == some .cell) then (n, NameKind.cell) else (n, k)).lookup x = some .cell ∨
    (names.map fun (n, k) => if (k == NameKind.free && env.scope.kind == .function && env.kindOf n == some .cell) then (n, NameKind.cell) else (n, k)).lookup x = some .free
  | [], h => by simp at h
  | (n, j) :: r, h => by
    have ih := @relabel_free env x r
    show List.lookup x ((if (j == NameKind.free && env.scope.kind == .function && env.kindOf n == some .cell) = true then (n, NameKind.cell) else (n, j)) :: _) = _ ∨ List.lookup x ((if (j == NameKind.free && env.scope.kind == .function && env.kindOf n == some .cell) = true then (n, NameKind.cell) else (n, j)) :: _) = _
    rw [List.lookup_cons] at h
    cases hx : x == n with
    | true =>
      rw [hx] at h
      have e : j = NameKind.free := by simpa using h
      by_cases hc : (j == NameKind.free && env.scope.kind == .function && env.kindOf n == some .cell) = true
      · rw [if_pos hc]; exact .inl (by rw [List.lookup_cons, hx])
      · rw [if_neg hc]; exact .inr (by rw [List.lookup_cons, hx, e])
    | false =>
      rw [hx] at h
      by_cases hc : (j == NameKind.free && env.scope.kind == .function && env.kindOf n == some .cell) = true
      · rw [if_pos hc, List.lookup_cons, hx]; exact ih h
      · rw [if_neg hc, List.lookup_cons, hx]; exact ih h
theorem mem_of_look {α : Type} {x : Str} {k : α} : ∀ {l : List (Str × α)}, l.lookup x = some k → (x, k) ∈ l := fun h => PySem.mem_of_lookup h
section
variable {X : Cx} {pins : List (Addr × Obj)} {σ : St} {H H' : Hp} {s : Shared} {scope : Scope} {N' : List Str} {fm : List (Option Nat)} {fp : List Addr} {h' : Heap} {tk : Nat}
theorem CompSc.cells (S : CompSc X scope N' fm) (I : Inv X pins σ H s) : ∀ p ∈ scope.names, p.2 = NameKind.free → ∃ c, X.env.cells.lookup p.1 = some c := fun p hp hf => I.ok.has p.1 (freeOk_mem S.free hp hf)
theorem CompSc.look (S : CompSc X scope N' fm) (I : Inv X pins σ H s) {x : Str} {c : Addr} (h : (clOf scope X.env).lookup x = some c) : X.env.cells.lookup x = some c ∧ (x, NameKind.free) ∈ scope.names := by
  rcases clGo_from scope.names [] (S.cells I) h with q | q
  · exact q
  · simp at q
theorem comp_start (S : CompSc X scope N' fm) (I : Inv X pins σ H s) (hf : ∀ b ∈ fp, FpOk X pins H b) (hfs : ∀ b ∈ fp, b < s.heap.objs.size)
    (hn : h'.Ns s.heap.objs.size fun _ => none) (hk : ∀ b o, s.heap.get? b = some o → h'.get? b = some o) : Inv (cxC X scope N' s H s.heap.objs.size fp) [] (seeσ fm σ) H { s with heap := h', toks := tk } := by
  have cl : ∀ {x c}, (clOf scope X.env).lookup x = some c → X.env.cells.lookup x = some c ∧ (x, NameKind.free) ∈ scope.names := fun h => S.look I h
  have ltc : ∀ x c, X.env.cells.lookup x = some c → c < s.heap.objs.size := fun x c e => by
    obtain ⟨v, q⟩ := I.cell x c e
    exact q.lt
  refine ⟨⟨I.ok.mod, ?_, I.ok.glob, I.ok.blt, Nat.le_refl _, fun x y c h1 h2 => I.ok.inj x y c (cl h1).1 (cl h2).1, fun x hx => ?_, fun x c h _ => absurd (show false = true from h) (by decide), I.ok.hd, I.ok.frames, .inl rfl, fun b hb => ⟨Nat.ne_of_lt (hfs b hb), fun x c e z => ?_⟩, I.bs, Nat.le_trans I.ok.bsz I.sz, fun b o e hb => ?_, fun b hb z => ?_, I.stack, I.stkFree⟩,
    rfl, I.bare, Un.kept hk, ⟨_, hn, fun i x v e1 e2 e3 => ?_⟩, fun x c e => ?_, I.hok.fresh (Nat.le_refl _), fun x c e => I.freeC x c (cl e).1, fun p hp => absurd (show p ∈ ([] : List (Addr × Obj)) from hp) (by simp), I.hok.kept hk, ?_⟩
  · exact S.kind
  · -- a cell for each name
    have hx : (relabel scope X.env).names.lookup x = some .cell ∨ (relabel scope X.env).names.lookup x = some .free := hx
    have fr : scope.names.lookup x = some .free := by
      rcases hx with hx | hx
      · rcases lookup_relabel hx with q | q
        · exact absurd rfl (S.cell _ (mem_of_look q))
        · exact q.1
      · rcases lookup_relabel hx with q | q
        · exact q
        · exact q.1
    have m := mem_of_look fr
    obtain ⟨c, hc⟩ := S.cells I (x, .free) m rfl
    exact ⟨c, clGo_look hc _ _ (.inl m)⟩
  · exact (hf b hb).2.2.2.2.1 x c (cl e).1 z
  · rcases (hf b hb).2.2.2.1 with z | z
    · exact I.ok.noex b o e z
    · exact absurd (Nat.lt_of_lt_of_le (Heap.lt_size (I.ok.bs b o e).1) z) (Nat.lt_irrefl _)
  · rcases List.mem_cons.mp (I.stkSub b z) with q | q
    · exact (hf b hb).2.1 q
    · exact (hf b hb).2.2.1 q
  · -- a name of the def, seen in the block
    have e1 : N'[i]? = some x := e1
    have il : i < fm.length := by rw [← S.len]; exact (List.getElem?_eq_some_iff.mp e1).1
    have ef : fm[i]? = some fm[i] := by simp [il]
    unfold seeσ at e2
    rw [List.getElem?_map, ef] at e2
    cases q : fm[i] with
    | none => rw [q] at e2; simp at e2
    | some j =>
      rw [q] at e2 ef
      have e2 : (σ[j]?).join = some v := by simpa using e2
      have e2' : σ[j]? = some (some v) := by
        cases z : σ[j]? with
        | none => rw [z] at e2; simp at e2
        | some w => rw [z] at e2; simp at e2; rw [e2]
      have mz : (x, some j) ∈ N'.zip fm := by
        have : (N'.zip fm)[i]? = some (x, some j) := by rw [List.getElem?_zip_eq_some]; exact ⟨e1, ef⟩
        exact List.mem_of_getElem? this
      have ok := List.all_eq_true.mp S.map _ mz
      simp only [Bool.and_eq_true, beq_iff_eq] at ok
      have kx := freeOk_mem S.free (mem_of_look ok.2) rfl
      obtain ⟨m, hm, hl⟩ := I.loc
      obtain ⟨u, ru, lk⟩ := hl j x v ok.1 e2' (by rcases kx with k | k; exact .inr (.inl k); exact .inr (.inr k))
      refine ⟨u, ru, .inr ?_⟩
      rcases lk with ⟨k, _⟩ | ⟨_, c, hc, ⟨o, ho, hd⟩⟩
      · rcases kx with z | z
        · rw [z] at k; cases k
        · rw [z] at k; cases k
      · exact ⟨relabel_free ok.2, c, clGo_look hc _ _ (.inl (mem_of_look ok.2)), o, hk _ _ ho, hd⟩
  · obtain ⟨v, o, ho, hd⟩ := I.cell x c (cl e).1
    exact ⟨v, o, hk _ _ ho, hd⟩
  · show (seeσ fm σ).length = N'.length
    unfold seeσ
    rw [List.length_map, S.len]
theorem comp_back {σ' : St} {s1 s2 : Shared} {p1 : List (Addr × Obj)} (I : Inv X pins σ H s) (hf : ∀ b ∈ fp, FpOk X pins H b) (J : Inv (cxC X scope N' s H s.heap.objs.size fp) p1 σ' H' s1) (hs : s2.os = s1.os) (hg : AllBare s2.gens)
    (hh : Heap.SameBut s.heap.objs.size s1.heap s2.heap) : Inv X pins σ H' s2 := by
  have un : Un (frs X.stack) fp H H' s.heap s1.heap := J.base
  have hne : ∀ b o, s.heap.get? b = some o → b ≠ s.heap.objs.size := fun b o e => Nat.ne_of_lt (Heap.lt_size e)
  have free' : H' s.heap.objs.size = none := J.free
  refine I.call' (ch := fp) (hs.trans J.os) ⟨fun b o e n hb hx => ?_, fun b o e n hb hx => ?_, un.free, fun b o e hx => ?_, un.tups, un.frzs, un.tbls⟩ (fun b o e => ?_) hg fun b hb => ?_
  · exact (hh.2 b (hne b o e)).trans (un.keep b o e n hb hx)
  · obtain ⟨sl, q⟩ := un.slot b o e n hb hx
    exact ⟨sl, (hh.2 b (hne b o e)).trans q⟩
  · obtain ⟨o', q⟩ := un.there b o e hx
    exact ⟨o', (hh.2 b (hne b o e)).trans q⟩
  · refine (J.hok b o e).stay (fun c v hc q => (hh.2 c ?_).trans q) (fun _ q => q) fun _ _ q => q
    rintro rfl
    rcases hc with z | z
    · rw [← z, free'] at e; cases e
    · rw [free'] at z; cases z
  · obtain ⟨_, f1, _, f3, f4, f5⟩ := hf b hb
    exact ⟨f3, f1, f4, f5⟩
end
end L2
set_option Elab.async false
set_option linter.all false
set_option maxRecDepth 100000
set_option maxHeartbeats 4000000
namespace L2
open PySem PySem.Spec PyProof.Rows
def PIfs (X : Cx) (ifs : List Expr) (t : TT) : Prop :=
  ∀ (pins : List (Addr × Obj)) (s : Shared) (σ : St) (H : Hp) (Q : Bool → Hp → Prop), Inv X pins σ H s → t σ H Q →
    wpAny (model X.prog X.w) X.A (forIn ifs true fun c r => if r = true then do let ok ← isTrue c X.env (eval c X.env); pure (ForInStep.yield ok) else pure (ForInStep.yield r)) (TP X pins σ Q) X.xe s
def tAll : TT := fun _ H Q => Q true H
theorem pif_nil {X : Cx} : PIfs X [] tAll := fun _ _ _ H _ I h => wpAny_tests_nil ⟨H, I, h⟩
def tBlk (J : It) (p : Addr) (g : TG) (tt : TT) (te : TE) (σ0 : St) (H0 : Hp) (Q : Hp → Prop) : Prop :=
  ∃ W : Nat → Nat → St → Hp → Prop, (∃ m, W 0 m σ0 H0) ∧ ∀ i m σ H, W i m σ H →
    (J.stop i H ∧ Q H) ∨ (J.go i H ∧ ∃ N : St → Hp → Prop, (∀ σ' H', N σ' H' → ∃ m', m' < m ∧ W (i + 1) m' σ' H') ∧ ∀ x H1, J.yld i H x H1 → g x σ H1 fun σ2 H2 => tt σ2 H2 fun b H3 =>
      if b = true then te σ2 H3 fun v H4 => ∃ ys, H4 p = some (.lst ys) ∧ ys.length < sizeLine ∧ N σ2 (upd H4 p (.lst (ys ++ [v])))
      else N σ2 H3)
def tComp (fm : List (Option Nat)) (wi : TI) (g : TG) (tt : TT) (te : TE) : TE := fun σ H Q => wi σ H fun J H1 => ∀ p, H1 p = none →
  tBlk J p g tt te (seeσ fm σ) (upd H1 p (.lst [])) fun H2 => Q (.ref p) H2
section
variable {X : Cx} {elt iter tg : Expr} {ifs : List Expr} {scope : Scope} {pos : Pos} {N' : List Str} {fm : List (Option Nat)} {wi : TI} {g : TG} {tt : TT} {te : TE}
theorem comp_loop {R : Result → Shared → Prop} {pins : List (Addr × Obj)} {σ : St} {H : Hp} {s s1 : Shared} {it p C : Addr} {fp : List Addr} {tn : Nat → Heap → Prop} {J : It} {Q : Hp → Prop} {H0 : Hp} {σ0 : St}
    (hc : X.calm = true) (hg : PG (cxC X scope N' s H C fp) tg g) (ht : PIfs (cxC X scope N' s H C fp) ifs tt) (he : PE (cxC X scope N' s H C fp) elt te)
    (T : Turn X.prog X.w X.K tg J fp it tn) (hfp : ∀ {H' : Hp}, (∀ b ∈ fp, H' b = none) → ∀ b ∈ fp, FpOk (cxC X scope N' s H C fp) [] H' b)
    (I : Inv (cxC X scope N' s H C fp) [] σ0 H0 s1) (st : tn 0 s1.heap) (hfr : ∀ b ∈ fp, H0 b = none) (blk : tBlk J p g tt te σ0 H0 Q)
    (hR : ∀ σ' H' s', Inv (cxC X scope N' s H C fp) [] σ' H' s' → Q H' → R (.ok .next) s') :
    codeAny (model X.prog X.w) X.A (.compLoop (.ListComp elt [⟨tg, iter, ifs, 0⟩] scope pos) 0 (.ref it) (.ref p) (compEnvC scope (clOf scope X.env) C X.env)) R s1 := by
  obtain ⟨W, ⟨m0, w0⟩, turn⟩ := blk
  refine codeAny_loop rfl (fun n s' => ∃ i σ' H', Inv (cxC X scope N' s H C fp) [] σ' H' s' ∧ tn i s'.heap ∧ (∀ b ∈ fp, H' b = none) ∧ W i n σ' H') (fun n s2 hI => ?_) m0 ⟨0, σ0, H0, I, st, hfr, w0⟩
  obtain ⟨i, σ2, H2, I2, st2, fr2, w2⟩ := hI
  show wpAny _ X.A ((compTurn (.ListComp elt [⟨tg, iter, ifs, 0⟩] scope pos) 0 (.ref it) (.ref p) (compEnvC scope (clOf scope X.env) C X.env)).onRaise fun x => do noteFrame x (compEnvC scope (clOf scope X.env) C X.env); theTreesLotGoes x) _ _ s2
  refine wpAny_noted ?_
  rw [compTurn_list]
  have lift : ∀ {α : Type} {t : Sem α} {Q1 Q2 : α → Shared → Prop} {E2 : Value → Shared → Prop} {s' : Shared}, wpAny (model X.prog X.w) X.A t Q1 (fun _ _ => False) s' → (∀ a s'', Q1 a s'' → Q2 a s'') → wpAny (model X.prog X.w) X.A t Q2 E2 s' :=
    fun h k => wpAny_mono h k fun _ _ z => z.elim
  rcases turn i n σ2 H2 w2 with ⟨stop, qn⟩ | ⟨go, N, hN, step⟩
  · refine wpAny_bind (wpAny_standAt (wpAny_bind (lift (T.done (cxC X scope N' s H C fp) rfl rfl rfl hc i [] s2 σ2 H2 _ I2 (hfp fr2) st2 stop) fun r s3 q => ?_)))
    obtain ⟨hr, I3⟩ := q
    subst hr
    exact wpAny_pure (hR σ2 H2 s3 I3 qn)
  · refine wpAny_bind (wpAny_standAt (wpAny_bind (lift (T.item (cxC X scope N' s H C fp) rfl rfl rfl hc i [] s2 σ2 H2 _ I2 (hfp fr2) st2 go) fun r s3 q => ?_)))
    obtain ⟨u, hr, h3⟩ := q
    subst hr
    refine wpAny_bind (lift h3 fun _ s4 q4 => ?_)
    obtain ⟨x, H4, I4, r4, y4, st4, fr4⟩ := q4
    have I4' := I4.pinned (hfp fr4) (T.obj _ _ st4)
    refine wpAny_bind (lift (hg _ s4 σ2 H4 x u _ I4' r4 (step x H4 y4)) fun _ s5 q5 => ?_)
    obtain ⟨σ5, H5, I5, q5⟩ := q5
    refine wpAny_bind (lift (ht _ s5 σ5 H5 _ I5 q5) fun b s6 q6 => ?_)
    obtain ⟨H6, I6, q6⟩ := q6
    have again : ∀ {σ7 : St} {H7 : Hp} {s7 : Shared} {m' : Nat}, Inv (cxC X scope N' s H C fp) ([] ++ pinsAt fp s4.heap) σ7 H7 s7 → W (i + 1) m' σ7 H7 →
        ∃ i σ' H', Inv (cxC X scope N' s H C fp) [] σ' H' s7 ∧ tn i s7.heap ∧ (∀ b ∈ fp, H' b = none) ∧ W i m' σ' H' := fun {σ7 H7 s7 m'} I7 w7 => by
      refine ⟨i + 1, σ7, H7, I7.unpinned, T.keep _ _ _ st4 fun b hb o e => (I7.pin (b, o) (List.mem_append_right _ (List.mem_append_right _ (mem_pinsAt hb e)))).1, fun b hb => ?_, w7⟩
      obtain ⟨o, e, d⟩ := T.obj _ _ st4 b hb
      exact (I7.pin (b, o) (List.mem_append_right _ (List.mem_append_right _ (mem_pinsAt hb e)))).2.1
    cases b with
    | false =>
      rw [if_neg Bool.false_ne_true] at q6
      obtain ⟨m', hm, w7⟩ := hN _ _ q6
      exact wpAny_pure ⟨rfl, m', hm, again I6 w7⟩
    | true =>
      rw [if_pos rfl] at q6
      refine wpAny_bind (wpAny_bind (lift (he _ s6 σ5 H6 _ I6 q6) fun u s7 q7 => ?_))
      obtain ⟨v, H7, I7, r7, ys, hp, hz, n7⟩ := q7
      obtain ⟨m', hm, w7⟩ := hN _ _ n7
      have ap := mt_append (X := cxC X scope N' s H C fp) ([] ++ pinsAt fp s4.heap) s7 σ5 H7 (.ref p) [v] (.ref p) [u] (fun _ H8 => W (i + 1) m' σ5 H8) I7 rfl (.cons r7 .nil) ⟨p, ys, v, rfl, rfl, hp, hz, w7⟩
      refine wpAny_bind (lift ap fun _ s8 q8 => ?_)
      obtain ⟨_, H8, I8, _, w8⟩ := q8
      exact wpAny_pure (wpAny_pure ⟨rfl, m', hm, again I8 w8⟩)
end
section
variable {K : PySem.W.Frag} {p : Addr} {g : TG} {tt : TT} {te : TE} {σ0 : St} {H0 : Hp} {Q : Hp → Prop}
def BlkTurn (p : Addr) (g : TG) (tt : TT) (te : TE) (N : St → Hp → Prop) (x : V) (σ : St) (H : Hp) : Prop :=
  g x σ H fun σ2 H2 => tt σ2 H2 fun b H3 => if b = true then te σ2 H3 fun v H4 => ∃ ys, H4 p = some (.lst ys) ∧ ys.length < sizeLine ∧ N σ2 (upd H4 p (.lst (ys ++ [v]))) else N σ2 H3
theorem blk_range {lo : Int} {n : Nat} (Pv : Nat → St → Hp → Prop) (h0 : Pv 0 σ0 H0) (hs : ∀ i σ H, i < n → Pv i σ H → BlkTurn p g tt te (Pv (i + 1)) (.int (lo + i)) σ H) (hd : ∀ σ H, Pv n σ H → Q H) : tBlk (Itr lo n) p g tt te σ0 H0 Q := by
  refine ⟨fun i m σ H => m = n - i ∧ i ≤ n ∧ Pv i σ H, ⟨n, by simp, Nat.zero_le _, h0⟩, ?_⟩
  rintro i m σ H ⟨rfl, hi, q⟩
  by_cases hlt : i < n
  · refine .inr ⟨hlt, Pv (i + 1), fun σ' H' r => ⟨n - (i + 1), by omega, rfl, hlt, r⟩, fun x H' y => ?_⟩
    obtain ⟨e, y⟩ := y
    subst e y
    exact hs i σ _ hlt q
  · have e : i = n := by omega
    subst e
    exact .inl ⟨Nat.le_refl _, hd σ H q⟩
end
end L2
set_option Elab.async false
set_option linter.all false
set_option maxRecDepth 100000
set_option maxHeartbeats 4000000
namespace L2
open PySem PySem.Spec PyProof.Rows
section
variable {X : Cx} {elt iter tg : Expr} {ifs : List Expr} {scope : Scope} {pos : Pos} {N' : List Str} {fm : List (Option Nat)} {wi : TI} {g : TG} {tt : TT} {te : TE}
theorem comp_block {RR : Value → Addr → Result → Shared → Prop} {pins : List (Addr × Obj)} {σ : St} {H : Hp} {s : Shared} {it : Addr} {fp : List Addr} {tn : Nat → Heap → Prop} {J : It} {Q : Addr → Hp → Prop} {E : Value → Shared → Prop}
    (hc : X.calm = true) (S : CompSc X scope N' fm) (hg : ∀ s H C fp, PG (cxC X scope N' s H C fp) tg g) (ht : ∀ s H C fp, PIfs (cxC X scope N' s H C fp) ifs tt) (he : ∀ s H C fp, PE (cxC X scope N' s H C fp) elt te)
    (T : Turn X.prog X.w X.K tg J fp it tn) (I : Inv X pins σ H s) (st : tn 0 s.heap) (hf : ∀ b ∈ fp, FpOk X pins H b)
    (blk : ∀ p, H p = none → tBlk J p g tt te (seeσ fm σ) (upd H p (.lst [])) (Q p))
    (hR : ∀ p C H' s' (m : Str → Option Value), s'.heap.Ns C m → (∀ h', Heap.SameBut C s'.heap h' → Inv X pins σ H' { s' with heap := h' }) → FpOk X pins H' C → Q p H' → Inv X pins σ H' s' → RR (.ref p) C (.ok .next) s') :
    wpAny (model X.prog X.w) X.A (newList []) (fun acc s₃ => wpAny (model X.prog X.w) X.A (newFunctionEnv scope X.env.globals (clOf scope X.env) [] X.env.qual none .none (some X.env)) (fun cenv s₄ =>
      codeAny (model X.prog X.w) X.A (.compStart (.ListComp elt [⟨tg, iter, ifs, 0⟩] scope pos) 0 (.ref it) acc { cenv with scope := relabel scope X.env }) (RR acc cenv.locals) s₄) E s₃) E s := by
  have I1 : Inv X pins σ (upd H s.heap.objs.size (.lst [])) { s with heap := s.heap.push { cls := .type "list", data := .seq ([] : List Value).toArray } } := I.lnew (t' := s.toks) .nil (Nat.zero_le _)
  have hb := blk _ I.fresh
  refine wpAny_newObj_type (wpAny_newFunctionEnv S.cell (by intro y hy; simp at hy) (fun h1 hn1 hs1 => ?_) S.kind)
  dsimp only at hn1 hs1 ⊢
  generalize hq : s.heap.push { cls := .type "list", data := .seq ([] : List Value).toArray } = h2 at hn1 hs1 I1 ⊢
  have sz : h2.objs.size = s.heap.objs.size + 1 := by rw [← hq, Heap.size_push]
  have old : ∀ b o, h2.get? b = some o → h1.get? b = some o := fun b o e => hs1.extBut b o (Nat.ne_of_lt (Heap.lt_size e)) (Heap.get?_push_of_some _ e)
  have old0 : ∀ b o, s.heap.get? b = some o → h2.get? b = some o := fun b o e => hq ▸ Heap.get?_push_of_some _ e
  have lt0 : ∀ b ∈ fp, b < s.heap.objs.size := fun b hb => by
    obtain ⟨o, e, _⟩ := T.obj _ _ st b hb
    exact Heap.lt_size e
  have hf1 : ∀ b ∈ fp, FpOk X pins (upd H s.heap.objs.size (.lst [])) b := fun b hb => by
    obtain ⟨f0, f⟩ := hf b hb
    exact ⟨by rw [upd_ne (Nat.ne_of_lt (lt0 b hb))]; exact f0, f⟩
  have lt2 : ∀ b ∈ fp, b < h2.objs.size := fun b hb => by rw [sz]; exact Nat.lt_succ_of_lt (lt0 b hb)
  have J0 := comp_start (s := { s with heap := h2 }) (h' := h1) (tk := s.toks) (fp := fp) S I1 hf1 lt2 hn1 old
  have st1 : tn 0 h1 := T.keep _ _ _ st fun b _ o e => old b o (old0 b o e)
  have fpok : ∀ {H' : Hp}, (∀ b ∈ fp, H' b = none) → ∀ b ∈ fp, FpOk (cxC X scope N' { s with heap := h2 } (upd H s.heap.objs.size (.lst [])) h2.objs.size fp) [] H' b := fun {H'} hn b hb => by
    refine ⟨hn b hb, Nat.ne_of_lt (lt2 b hb), fun z => ?_, .inl hb, fun x c e z => ?_, fun p hp => absurd (show p ∈ ([] : List (Addr × Obj)) from hp) (by simp)⟩
    · rcases List.mem_cons.mp (I.stkSub b z) with q | q
      · exact (hf b hb).2.1 q
      · exact (hf b hb).2.2.1 q
    · exact (hf b hb).2.2.2.2.1 x c (S.look I e).1 z
  have loop := comp_loop (iter := iter) (pos := pos) (R := RR (.ref s.heap.objs.size) h2.objs.size) (σ := σ) (pins := pins) hc (hg _ _ _ _) (ht _ _ _ _) (he _ _ _ _) T fpok J0 st1 (fun b hb => (hf1 b hb).1) hb fun σ' H' s' Jv qv => by
    obtain ⟨m, hm, _⟩ := Jv.loc
    exact hR _ _ H' s' m hm (fun h' sb => comp_back (s := { s with heap := h2 }) I1 hf1 Jv rfl Jv.bare sb) (I1.fpOk (Nat.le_refl _) Jv.free) qv (comp_back (s := { s with heap := h2 }) I1 hf1 Jv rfl Jv.bare (Heap.SameBut.refl ..))
  exact codeAny_compStart_list loop (T.self _ 0 _ _ _ st1 loop)
theorem pe_comp (hc : X.calm = true) (S : CompSc X scope N' fm) (hi : PI X tg iter wi) (hg : ∀ s H C fp, PG (cxC X scope N' s H C fp) tg g) (ht : ∀ s H C fp, PIfs (cxC X scope N' s H C fp) ifs tt)
    (he : ∀ s H C fp, PE (cxC X scope N' s H C fp) elt te) (hs : ∀ x, foldedSetIterable iter X.env x = pure x := by intro _; rfl) :
    PE X (.ListComp elt [⟨tg, iter, ifs, 0⟩] scope pos) (tComp fm wi g tt te) := by
  intro pins s σ H Q I h
  rw [eval_ListComp]
  refine wpAny_comprehension_free (use := none) rfl hs (closure_run (S.cells I)) S.kind S.names (thn (hi pins s σ H _ I h) fun v s1 h1 => thn h1 fun itv s2 h2 => ?_)
  obtain ⟨it, fp, tn, J, H2, e, I2, T, st2, f2, blk⟩ := h2
  subst e
  refine comp_block (RR := fun acc C => compPost (model X.prog X.w) X.A X.xe none (EP X pins σ Q) acc C) (Q := fun p H' => Q (.ref p) H') hc S hg ht he T I2 st2 f2 blk ?_
  intro p C H' s' m hm back _ q _
  exact ⟨m, hm, fun h' sb => ⟨.ref p, H', back h' sb, rfl, q⟩⟩
end
end L2
set_option Elab.async false
set_option linter.all false
set_option maxRecDepth 100000
set_option maxHeartbeats 4000000
namespace L2
open PySem PySem.Spec PySem.W
section
variable {prog : Program} {w : World} {A : Around} {R : Result → Shared → Prop} {h : Heap} {g : Array GenState} {d : Drawn} {t : Nat} {os : OsState}
variable {nm q : Str} {C N f : Addr} {bs bm : List Value} {hdct : Bool} {sn : List Str} {sub : List Value} {ab : Bool} {col : Option Bool} {dd : Option Addr} {k0 k1 k2 k3 k5 : Option Value}
abbrev xObj (C tu : Addr) : Obj := { cls := .ref C, data := .fields #[.ref tu, .none, .none, .none, .bool false, .none] }
abbrev xTup (us : List Value) : Obj := { cls := .type "tuple", data := .seq us.toArray }
structure XBases (bm : List Value) : Prop where
  ve : bm.contains (.type "ValueError") = true
  be : bm.contains (.type "BaseException") = true
  ae : bm.contains (.type "AttributeError") = false
  ne : bm.contains (.type "NameError") = false
  ob : bm.contains (.type "object") = true
  rf : ∀ self : Value, refuseLoop self "__setattr__" bm = pure ()
theorem x_check (B : XBases bm) {M : Model} {E : Value → Shared → Prop} {us : List Value} {Q : Unit → Shared → Prop} (hC : h.get? C = some (excClassObj nm q C N bs bm hdct sn sub ab col dd k0 k1 k2 k3 k5 "ValueError.__new__"))
    (hq : Q () ⟨h, g, d, t, os⟩) : wpAny M A (checkBuiltinCall "ValueError.__new__" ⟨.ref C :: us, []⟩) Q E ⟨h, g, d, t, os⟩ := by
  have FV := PySem.F.excBase_ValueError
  have c1 : (Value.ref C :: bm).contains (.type "ValueError") = true := by rw [List.contains_cons, B.ve, Bool.or_true]
  have c2 := FV.noStar
  simp only [checkBuiltinCall, FV.newKind, FV.newSplit, FV.newRow]
  repeat (first | refine wpAny_loadPart_at hC ?_ | (refine wpAny_isSubtype_exc hC ?_; rw [c1]) | refine wpAny_staticBase_exc hC ?_ | refine wpAny_madeBy_exc hC ?_ | (simp only [bne_self_eq_false, Bool.false_eq_true, if_false]) | wp_step)
  exact hq
theorem x_new (B : XBases bm) {us : List Value} (hC : h.get? C = some (excClassObj nm q C N bs bm hdct sn sub ab col dd k0 k1 k2 k3 k5 "ValueError.__new__"))
    (hq : R (.ok (.ret (.ref (h.objs.size + 1)))) ⟨(h.push (xTup us)).push (xObj C h.objs.size), g, d, t, os⟩) (hus : us.length ≤ sizeLine) :
    codeAny (model prog w) A (.builtin "ValueError.__new__" ⟨.ref C :: us, []⟩) R ⟨h, g, d, t, os⟩ := by
  have FV := PySem.F.excBase_ValueError
  have e1 := FV.ends
  have c1 : (Value.ref C :: bm).contains (.type "ValueError") = true := by rw [List.contains_cons, B.ve, Bool.or_true]
  have c2 : (Value.ref C :: bm).contains (.type "AttributeError") = false := by rw [List.contains_cons, B.ae]; rfl
  have c3 : (Value.ref C :: bm).contains (.type "NameError") = false := by rw [List.contains_cons, B.ne]; rfl
  refine codeAny_builtinAt FV.entry ?_
  unfold Builtin.«BaseException.__new__»
  refine PySem.wpAt_bind ?_
  show PySem.wpAt _ _ _ (stack >>= _) _ _ _
  refine PySem.wpAt_bind (PySem.wpAt_stack fun a b => PySem.wpAt_of_wpAny ?_)
  wp_walk
  refine PySem.wpAt_of_wpAny ?_
  rw [FV.owner]
  repeat (first | with_reducible refine wpAny_madeHere_exc FV.canon hC ?_ | with_reducible refine wpAny_loadPart_at hC ?_ | (with_reducible refine wpAny_isSubtype_exc hC ?_; first | rw [c1] | rw [c2] | rw [c3]) | wp_step)
  show R _ _
  rw [Heap.size_push]
  exact hq
theorem x_make (B : XBases bm) {us : List Value} (hC : h.get? C = some (excClassObj nm q C N bs bm hdct sn sub ab col dd k0 k1 k2 k3 k5 "ValueError.__new__"))
    (hi : Looks (model prog w) h (typeLookup (.ref C) "__init__") (some (.ref f))) (hb : ∀ self, Looks (model prog w) h (bindSpecial (.ref f) self) (.ref f, [self])) (hus : us.length ≤ sizeLine)
    (hq : codeAny (model prog w) (A.under (.builtin "type.__call__" ⟨.ref C :: us, []⟩)) (.call (.ref f) ⟨.ref (h.objs.size + 1) :: us, []⟩) (InitBack (h.objs.size + 1) R) ⟨(h.push (xTup us)).push (xObj C h.objs.size), g, d, t, os⟩) :
    codeAny (model prog w) A (.call (.ref C) ⟨us, []⟩) R ⟨h, g, d, t, os⟩ := by
  have f1 := tc_lookup
  have f2 := tc_bind (.ref C)
  have hT : (⟨h, g, d, t, os⟩ : Shared).TypeIs (.ref C) "type" := ⟨_, hC, rfl⟩
  refine codeAny_of_tree ?_
  show wpAny _ _ (callAny (.ref C) _) _ _ _
  repeat (any_goals (first | assumption | with_reducible refine wpAny_loadPart_at hC ?_ | wp_step))
  refine ⟨rfl, ?_⟩
  refine codeAny_call_builtin_at (Code.quiet_builtin _ (by decide +kernel)) entry_typeCall (wpAny_check_type_call_sub hC ?_)
  repeat (first | with_reducible refine wpAny_loadPart_at hC ?_ | with_reducible refine wpAny_madeBy_exc hC ?_ | wp_step)
  refine codeAny_call_builtin_code (Code.quiet_builtin _ PySem.F.excBase_ValueError.quiet) (x_check B hC (x_new B hC ?_ hus))
  show wpAny _ _ _ _ _ _
  have k : ∀ b o, h.get? b = some o → ((h.push (xTup us)).push (xObj C h.objs.size)).get? b = some o := fun b o e => Heap.get?_push_of_some _ (Heap.get?_push_of_some _ e)
  have hC1 := k _ _ hC
  have hx : ((h.push (xTup us)).push (xObj C h.objs.size)).get? (h.objs.size + 1) = some (xObj C h.objs.size) := by heap_get
  have cC : (Value.ref C :: bm).contains (.ref C) = true := by simp
  have i1 := hi.keeps k
  have b1 := (hb (.ref (h.objs.size + 1))).keeps k
  have t1 : Looks (model prog w) ((h.push (xTup us)).push (xObj C h.objs.size)) (typeOf (.ref (h.objs.size + 1))) (.ref C) := (Looks.ld hx).andThen .now
  unfold isInstance
  repeat (first | with_reducible refine wpAny_loadPart_at hx ?_ | (with_reducible refine wpAny_isSubtype_exc hC1 ?_; rw [cC]) | wp_step)
  show wpAny _ _ (isSubtype (.ref C) (.ref C)) _ _ ⟨(h.push (xTup us)).push (xObj C h.objs.size), g, d, t, os⟩
  refine wpAny_isSubtype_exc hC1 ?_
  rw [cC]
  unfold callSpecial? specialOf
  simp only [Bool.not_true, Bool.false_eq_true, if_false]
  repeat (first | with_reducible refine wpAny_call ?_ | lk)
  refine codeAny_mono hq fun r s' z => ?_
  rcases r with e | (v | _ | _ | _) <;> first | exact z | exact z.elim | skip
  obtain ⟨rfl, z⟩ := z
  exact wpAny_pure (wpAny_pure z)
end
end L2
set_option Elab.async false
set_option linter.all false
set_option maxRecDepth 100000
set_option maxHeartbeats 4000000
namespace L2
open PySem PySem.Spec PyProof.Rows
def XData (C : Addr) (dx : Option Addr) (tb : Value) (a0 : Addr) : Obj := { cls := .ref C, dict := dx, data := .fields #[.ref a0, tb, .none, .none, .bool false, .none] }
def XO (C : Addr) (dx : Option Addr) (tb : Value) (ea : Addr) : HO := .ext fun h => ∃ a0, h.get? ea = some (XData C dx tb a0)
def TB (fl : Value) (T : Addr) : HO := .ext fun h => ∃ o ts, h.get? T = some o ∧ o.data = .fields ts ∧ ts[3]? = some fl
section
variable {P : Program} {w : World} {H : Hp} {h : Heap} {C ea T : Addr} {dx : Option Addr} {tb fl : Value}
theorem XO.mk {a0 : Addr} (e : h.get? ea = some (XData C dx tb a0)) : ObjOk P w H h ea (XO C dx tb ea) := ⟨⟨a0, e⟩, ⟨_, e⟩, fun _ _ ⟨a, q⟩ k => ⟨a, k _ q⟩⟩
theorem TB.mk {o : Obj} {ts : Array Value} (e : h.get? T = some o) (d : o.data = .fields ts) (q : ts[3]? = some fl) : ObjOk P w H h T (TB fl T) := ⟨⟨o, ts, e, d, q⟩, ⟨_, e⟩, fun _ _ ⟨o, ts, e, d, q⟩ k => ⟨o, ts, k _ e, d, q⟩⟩
theorem XO.at (ok : HOk P w H h) (e : H ea = some (XO C dx tb ea)) : ∃ a0, h.get? ea = some (XData C dx tb a0) := (ok ea _ e).1
theorem TB.at (ok : HOk P w H h) (e : H T = some (TB fl T)) : ∃ o ts, h.get? T = some o ∧ o.data = .fields ts ∧ ts[3]? = some fl := (ok T _ e).1
theorem upd_id {a : Addr} {o : HO} (e : H a = some o) : upd H a o = H := by
  funext b
  unfold upd
  split
  · rename_i z; subst z; exact e.symm
  · rfl
end
section
variable {X : Cx} {pins : List (Addr × Obj)} {σ : St} {H : Hp} {s : Shared} {E : Value → Shared → Prop} {C ea T : Addr} {dx : Option Addr} {tb fl : Value} {A : Around}
theorem Inv.xset {i : Nat} {v tb' : Value} {a0 a1 : Addr} (I : Inv X pins σ H s) (e : H ea = some (XO C dx tb ea)) (q : s.heap.get? ea = some (XData C dx tb a0))
    (hv : (#[.ref a0, tb, .none, .none, .bool false, .none] : Array Value).setIfInBounds i v = #[.ref a1, tb', .none, .none, .bool false, .none]) :
    Inv X pins σ (upd H ea (XO C dx tb' ea)) { s with heap := s.heap.update ea (Obj.mapFields (·.setIfInBounds i v)) } := by
  have e1 : (s.heap.update ea (Obj.mapFields (·.setIfInBounds i v))).get? ea = some (XData C dx tb' a1) := by
    rw [Heap.get?_update_self _ q rfl]
    show some ({ cls := .ref C, dict := dx, data := .fields ((#[.ref a0, tb, .none, .none, .bool false, .none] : Array Value).setIfInBounds i v) } : Obj) = _
    rw [hv]; rfl
  exact I.write (t' := s.toks) (e := ea) (by rw [e]; trivial) (.inl rfl) (fun b u hb z => by rw [Heap.get?_update_other _ _ (Ne.symm hb)]; exact z) ⟨_, e1⟩ (XO.mk e1)
theorem Inv.tset {v : Value} {o : Obj} {ts : Array Value} (I : Inv X pins σ H s) (e : H T = some (TB fl T)) (q : s.heap.get? T = some o) (d : o.data = .fields ts) (h3 : 3 < ts.size) :
    Inv X pins σ (upd H T (TB v T)) { s with heap := s.heap.update T (Obj.mapFields (·.setIfInBounds 3 v)) } := by
  have d' := Obj.data_mapFields d (·.setIfInBounds 3 v)
  have e1 := Heap.get?_update_self (Obj.mapFields (·.setIfInBounds 3 v)) q (Obj.isFreed_of_fields d')
  exact I.write (t' := s.toks) (e := T) (by rw [e]; trivial) (.inl rfl) (fun b u hb z => by rw [Heap.get?_update_other _ _ (Ne.symm hb)]; exact z) ⟨_, e1⟩ (TB.mk e1 d' (by simp [h3]))
theorem Inv.slots {h' : Heap} (I : Inv X pins σ H s) (hs : Heap.SlotsOnly (frs X.stack) s.heap h') : Inv X pins σ H { s with heap := h' } := by
  have un : Un (frs X.stack) [] H H s.heap h' := ⟨fun b o e _ hb _ => (hs.2.1 b hb).trans e, fun b o e _ _ _ => hs.2.2 b o e, fun _ _ _ n _ => n, fun b o e _ => let ⟨sl, q⟩ := hs.2.2 b o e; ⟨_, q⟩, fun _ _ q => q, fun _ _ _ q => q, fun _ ps q => ⟨#[], by rw [q]; simp⟩⟩
  refine I.call (h' := h') (g' := s.gens) (d' := s.drawn) (t' := s.toks) (ch := []) un (fun b o e => ?_) I.bare fun b z => absurd z (by simp)
  refine (I.hok b o e).stay (fun c u hc q => (hs.2.1 c fun hb => ?_).trans q) (fun _ q => q) fun _ _ q => q
  have n := I.stkFree c hb
  rcases hc with z | z
  · rw [← z, n] at e; cases e
  · rw [n] at z; cases z
end
end L2
set_option Elab.async false
set_option linter.all false
set_option maxRecDepth 100000
set_option maxHeartbeats 4000000
namespace L2
open PySem PySem.Spec PyProof.Rows
section
variable {X : Cx} {pins : List (Addr × Obj)} {σ : St} {H : Hp} {s : Shared} {E : Value → Shared → Prop} {C ea T : Addr} {dx : Option Addr} {tb fl : Value} {A : Around}
def TbOk (H : Hp) (tb : Value) : Prop := tb = .none ∨ ∃ T, tb = .ref T ∧ H T = some (TB .none T)
def Noted (X : Cx) (pins : List (Addr × Obj)) (σ : St) (H : Hp) (C : Addr) (dx : Option Addr) (ea : Addr) (fl : Value) (s' : Shared) : Prop :=
  ∃ T, H T = none ∧ T ≠ ea ∧ Inv X pins σ (upd (upd H T (TB fl T)) ea (XO C dx (.ref T) ea)) s'
theorem note_new {head : Value} {b : Bool} {Q : Unit → Shared → Prop} (hfr : X.A.frames = some (X.env :: X.outer)) (hst : X.stack = X.env :: X.outer) (hL : X.env.frame = some X.env.locals) (I : Inv X pins σ H s) (e : H ea = some (XO C dx tb ea))
    (h : ∀ s', Noted X pins σ H C dx ea (rawInt X.env.locals) s' → Q () s') :
    wpAny (model X.prog X.w) X.A (do let a ← frameOf X.env; let pl ← entryPlaceOf X.env.locals b; let r ← EntryCells.newEntry head a .none (rawInt X.env.locals) .none pl; setField (.ref ea) 1 r) Q E s := by
  have hl := I.stack
  rw [hst] at hl
  refine wpAny_bind (wpAny_frameOf_fun hfr hl hL fun h1 hs1 => ?_)
  have I1 := I.slots (h' := h1) (by rw [hst]; exact hs1)
  refine wpAny_bind (wpAny_entryPlaceOf fun pl hpl => ?_)
  unfold EntryCells.newEntry newFields
  refine wpAny_bind (wpAny_newObj_type ?_ (hpl.sizeOk5 _ _ _ _ _))
  have fresh : H h1.objs.size = none := I1.hok.fresh (Nat.le_refl _)
  have ne : h1.objs.size ≠ ea := fun z => by rw [← z, fresh] at e; cases e
  have t3 : (([head, .ref X.env.locals, .none, rawInt X.env.locals, .none] ++ (if pl.isEmpty then List.replicate 6 Value.none else pl)).toArray : Array Value)[3]? = some (rawInt X.env.locals) := by simp
  have I2 : Inv X pins σ (upd H h1.objs.size (TB (rawInt X.env.locals) h1.objs.size)) { s with heap := h1.push { cls := .type "traceback", dict := none, data := .fields ([head, .ref X.env.locals, .none, rawInt X.env.locals, .none] ++ (if pl.isEmpty then List.replicate 6 Value.none else pl)).toArray } } :=
    I1.laid (a := h1.objs.size) (t' := s.toks) (fun c u q => Heap.get?_push_of_some _ q) (Nat.le_refl _) (TB.mk (Heap.get?_push_size _ rfl) rfl t3)
  have e2 : (upd H h1.objs.size (TB (rawInt X.env.locals) h1.objs.size)) ea = some (XO C dx tb ea) := by rw [upd_ne (Ne.symm ne)]; exact e
  obtain ⟨a0, q⟩ := XO.at I2.hok e2
  refine wpAny_setField q rfl (by show 1 < 6; decide) (h _ ⟨h1.objs.size, fresh, ne, I2.xset (i := 1) (a1 := a0) e2 q rfl⟩)
theorem note_ok {Q : Unit → Shared → Prop} (hst : X.stack = X.env :: X.outer) (hL : X.env.frame = some X.env.locals) (I : Inv X pins σ H s) (e : H ea = some (XO C dx tb ea)) (ht : TbOk H tb)
    (h : ∀ s', Noted X pins σ H C dx ea (rawInt X.env.locals) s' → Q () s') : wpAny (model X.prog X.w) X.A (noteFrame (.ref ea) X.env) Q E s := by
  have hfr : X.A.frames = some (X.env :: X.outer) := by rw [I.ok.frames, hst]
  obtain ⟨a0, q⟩ := XO.at I.hok e
  unfold noteFrame
  simp only [hL]
  refine wpAny_bind (wpAny_field q (x := tb) rfl rfl ?_)
  rcases ht with z | ⟨T, z, eT⟩
  · subst z
    rw [if_neg (by decide)]
    exact note_new hfr hst hL I e h
  · subst z
    obtain ⟨oT, ts, qT, dT, t3⟩ := TB.at I.hok eT
    rw [if_pos (show (Value.ref T != Value.none) = true by simp)]
    refine wpAny_bind (wpAny_field qT dT t3 ?_)
    rw [if_neg (show ¬ ((Value.none == rawInt X.env.locals) = true) by simp [rawInt])]
    have h3 : 3 < ts.size := (Array.getElem?_eq_some_iff.mp t3).1
    have I1 := I.tset (v := Value.none) eT qT dT h3
    rw [upd_id eT] at I1
    exact wpAny_bind (wpAny_setField qT dT h3 (note_new hfr hst hL I1 e h))
theorem flight_ok {Q : Unit → Shared → Prop} (I : Inv X pins σ H s) (e : H ea = some (XO C dx (.ref T) ea)) (eT : H T = some (TB fl T)) (h : ∀ s', Inv X pins σ (upd H T (TB .none T)) s' → Q () s') :
    wpAny (model X.prog X.w) A (setFlight (.ref ea) none) Q E s := by
  obtain ⟨a0, q⟩ := XO.at I.hok e
  obtain ⟨oT, ts, qT, dT, t3⟩ := TB.at I.hok eT
  unfold setFlight
  refine wpAny_bind (wpAny_field q (x := .ref T) rfl rfl ?_)
  rw [if_pos (show (Value.ref T != Value.none) = true by simp)]
  have h3 : 3 < ts.size := (Array.getElem?_eq_some_iff.mp t3).1
  exact wpAny_setField qT dT h3 (h _ (I.tset (v := Value.none) eT qT dT h3))
def SameX (ea : Addr) (H H' : Hp) : Prop := ∀ b o, b ≠ ea → H b = some o → H' b = some o
theorem leave_ok {Q : Unit → Shared → Prop} (hst : X.stack = X.env :: X.outer) (hL : X.env.frame = some X.env.locals) (I : Inv X pins σ H s) (e : H ea = some (XO C dx tb ea)) (ht : TbOk H tb)
    (h : ∀ s' T H', Inv X pins σ H' s' → H' ea = some (XO C dx (.ref T) ea) → H' T = some (TB .none T) → SameX ea H H' → Q () s') : wpAny (model X.prog X.w) X.A (leaving X.env (.ref ea)) Q E s := by
  unfold leaving
  refine wpAny_bind (note_ok hst hL I e ht fun s1 ⟨T, n, ne, I1⟩ => ?_)
  have e1 : upd (upd H T (TB (rawInt X.env.locals) T)) ea (XO C dx (.ref T) ea) ea = some (XO C dx (.ref T) ea) := upd_same
  have e2 : upd (upd H T (TB (rawInt X.env.locals) T)) ea (XO C dx (.ref T) ea) T = some (TB (rawInt X.env.locals) T) := by rw [upd_ne ne, upd_same]
  refine flight_ok I1 e1 e2 fun s2 I2 => h s2 T _ I2 (by rw [upd_ne (Ne.symm ne)]; exact e1) upd_same fun b o hb q => ?_
  have hT : b ≠ T := ne_of_none q n
  rw [upd_ne hT, upd_ne hb, upd_ne hT]
  exact q
def CXE (P : Program) (w : World) : CXT := fun outer H s E e s' => ∃ (ea C dx : Addr) (tb : Value) (H0 H' : Hp), e = .ref ea ∧ s'.os = s.os ∧ AllBare s'.gens ∧ Un (frs outer) [] H H' s.heap s'.heap ∧ HOk P w H' s'.heap ∧
  H' ea = some (XO C (some dx) tb ea) ∧ TbOk H' tb ∧ SameX ea H0 H' ∧ H0 ea = none ∧ E (.ref C) (some dx) H0
end
theorem passE {P : Program} {w : World} {K : PySem.W.Frag} {mg : Str → Option Value} {base : Heap} {N : List Str} {qual : Str} {scope : Scope} {f : Addr} {cd : Value} {A : Around} {outer : List Env} {s : Shared} {H : Hp} {E : XK} :
    Passes (CXE P w) (cxOf (CXE P w) P w K mg base N qual scope f cd A outer s H E) E := by
  intro pins σ H1 s1 e s2 I h
  obtain ⟨ea, C, dx, tb, H0, H2, rfl, os, bare, un, hok, e1, ht, sx, n0, q⟩ := h
  have J : Inv (cxOf (CXE P w) P w K mg base N qual scope f cd A outer s H E) pins σ H2 s2 := I.call' (ch := []) os un hok bare fun b z => absurd z (by simp)
  refine leave_ok (X := cxOf (CXE P w) P w K mg base N qual scope f cd A outer s H E) rfl rfl J e1 ht fun s3 T H3 J3 e3 eT sx3 => ?_
  exact ⟨ea, C, dx, .ref T, H0, H3, rfl, J3.os, J3.bare, J3.base, J3.hok, e3, .inr ⟨T, rfl, eT⟩, fun b o hb z => sx3 b o hb (sx b o hb z), n0, q⟩
end L2
set_option Elab.async false
set_option linter.all false
set_option maxRecDepth 100000
set_option maxHeartbeats 4000000
namespace L2
open PySem PySem.Spec
structure XCl (K : PySem.W.Frag) (C : Addr) : Prop where
  obj : ∃ (nm q : Str) (N : Addr) (bs bm : List Value) (sn : List Str) (sub : List Value) (ab : Bool) (col : Option Bool) (dd : Option Addr) (k0 k1 k2 k3 k5 : Option Value),
    K.lookup C = some (excClassObj nm q C N bs bm true sn sub ab col dd k0 k1 k2 k3 k5 "ValueError.__new__") ∧ XBases bm
section
variable {M : Model} {A : Around} {E : Value → Shared → Prop} {env : Env} {h : Heap} {g : Array GenState} {d : Drawn} {t : Nat} {os : OsState}
variable {nm q : Str} {C N : Addr} {bs bm : List Value} {hdct : Bool} {sn : List Str} {sub : List Value} {ab : Bool} {col : Option Bool} {dd : Option Addr} {k0 k1 k2 k3 k5 : Option Value} {ea a0 : Addr} {dx : Option Addr}
theorem x_raise {Q : Flow → Shared → Prop} (B : XBases bm) (hh : A.handled = none) (hC : h.get? C = some (excClassObj nm q C N bs bm hdct sn sub ab col dd k0 k1 k2 k3 k5 "ValueError.__new__"))
    (he : h.get? ea = some (XData C dx .none a0)) (hE : E (.ref ea) ⟨h, g, d, t, os⟩) : wpAny M A (raiseStmt env (some (pure (.ref ea))) none) Q E ⟨h, g, d, t, os⟩ := by
  have c1 : (Value.ref C :: bm).contains (.type "BaseException") = true := by rw [List.contains_cons, B.be, Bool.or_true]
  have hc : (XData C dx .none a0).cls = .ref C := rfl
  unfold raiseStmt
  refine wpAny_bind (wpAny_pure ?_)
  repeat (first | (with_reducible refine wpAny_loadPart_at he ?_; try rw [hc]) | with_reducible refine wpAny_loadPart_at hC ?_ | (with_reducible refine wpAny_isSubtype_exc hC ?_; rw [c1]) | wp_step)
  exact wpAny_raiseNew_none hh hE
theorem x_check_init {oe : Obj} {us : List Value} {Q : Unit → Shared → Prop} (B : XBases bm) (hC : h.get? C = some (excClassObj nm q C N bs bm hdct sn sub ab col dd k0 k1 k2 k3 k5 "ValueError.__new__"))
    (he : h.get? ea = some oe) (hc : oe.cls = .ref C) (hq : Q () ⟨h, g, d, t, os⟩) : wpAny M A (checkBuiltinCall "ValueError.__init__" ⟨.ref ea :: us, []⟩) Q E ⟨h, g, d, t, os⟩ := by
  have FV := PySem.F.excBase_ValueError
  have c1 : (Value.ref C :: bm).contains (.type "ValueError") = true := by rw [List.contains_cons, B.ve, Bool.or_true]
  have c2 := FV.noStar
  simp only [checkBuiltinCall, FV.initKind, FV.initSplit, FV.initRow]
  repeat (first | (with_reducible refine wpAny_loadPart_at he ?_; rw [hc]) | with_reducible refine wpAny_loadPart_at hC ?_ | (with_reducible refine wpAny_isSubtype_exc hC ?_; rw [c1]) | wp_step)
  refine wpAny_onRaise ?_
  have z : ∀ (a b : String) (n : Nat), Bind.check ⟨.positional, "*", "ValueError", .self, [⟨"args", .varPos, false⟩]⟩ a b n (List.map (fun x => x.fst) ({ pos := Value.ref ea :: us } : Args).kw) = pure () := fun a b n => check_star_args _ _ _ _ _ _
  rw [z]
  exact wpAny_pure hq
end
section
variable {prog : Program} {w : World} {A : Around} {E : Value → Shared → Prop} {env : Env} {h : Heap} {g : Array GenState} {d : Drawn} {t : Nat} {os : OsState}
variable {nm q : Str} {C N : Addr} {bs bm : List Value} {hdct : Bool} {sn : List Str} {sub : List Value} {ab : Bool} {col : Option Bool} {dd : Option Addr} {k0 k1 k2 k3 k5 : Option Value} {ea a0 : Addr} {dx : Option Addr} {tb : Value}
theorem x_init {us : List Value} {Q : Value → Shared → Prop} (B : XBases bm) (hC : h.get? C = some (excClassObj nm q C N bs bm hdct sn sub ab col dd k0 k1 k2 k3 k5 "ValueError.__new__"))
    (he : h.get? ea = some (XData C dx tb a0)) (hus : us.length ≤ sizeLine) (hq : Q .none ⟨(h.push (xTup us)).update ea (Obj.mapFields (·.setIfInBounds 0 (.ref h.objs.size))), g, d, t, os⟩) :
    wpAny (model prog w) A (call (.builtin "ValueError.__init__") (.ref ea :: us)) Q E ⟨h, g, d, t, os⟩ := by
  have FV := PySem.F.excBase_ValueError
  refine wpAny_call (codeAny_call_builtin FV.init.plain FV.initEntry (x_check_init B hC he rfl ?_))
  have he2 := Heap.get?_push_of_some (xTup us) he
  wp_walk
  exact hq
theorem x_set {name : Str} {v : Value} {Q : Unit → Shared → Prop} (B : XBases bm) (hC : h.get? C = some (excClassObj nm q C N bs bm true sn sub ab col dd k0 k1 k2 k3 k5 "ValueError.__new__"))
    (hx : h.get? ea = some (XData C none tb a0)) (sa : PySem.W.Looks (model prog w) h (typeLookup (.ref C) "__setattr__") (some (.builtin "object.__setattr__"))) (na : PySem.W.Looks (model prog w) h (typeLookup (.ref C) name) none)
    (hq : ∀ h' t', h'.Ns1 h.objs.size (fun y => if y = name then some v else none) → h'.get? ea = some (XData C (some h.objs.size) tb a0) → (∀ b o, b ≠ ea → h.get? b = some o → h'.get? b = some o) → Q () ⟨h', g, d, t', os⟩) :
    wpAny (model prog w) A (setAttr (.ref ea) name v) Q E ⟨h, g, d, t, os⟩ := by
  have SF := PySem.F.store_ValueError
  have ty : PySem.W.Looks (model prog w) h (typeOf (.ref ea)) (.ref C) := (PySem.W.Looks.ld hx).andThen .now
  have mro : PySem.W.Looks (model prog w) h (mroOf (.ref C)) (.ref C :: bm) := ((PySem.W.Looks.ld (part := none) hC).andThen .now).andThen .now
  have sub : PySem.W.Looks (model prog w) h (isSubtype (.ref C) (.type "object")) true := by
    intro A' Q' E' s' k q
    obtain ⟨h2, g2, d2, t2, os2⟩ := s'
    refine wpAny_isSubtype_exc (k _ _ hC) ?_
    rw [List.contains_cons, B.ob, Bool.or_true]
    exact q
  have ins : PySem.W.Looks (model prog w) h (isInstance (.ref ea) (.type "object")) true := ty.andThen sub
  refine wpAny_bind (wpAny_mkText (wpAny_bind (wpAny_bind (wpAny_bind (ty _ _ _ _ (fun _ _ e => e) (sa _ _ _ _ (fun _ _ e => e) (wpAny_holding ?_)))))))
  rw [SF.slot.bind]
  refine wpAny_bind (wpAny_pure (wpAny_bind (wpAny_call ?_)))
  refine codeAny_call_builtin SF.slot.plain SF.entry (@PySem.W.check_slot (model prog w) _ _ ⟨h, g, d, t + 1, os⟩ "object.__setattr__" "object" "__setattr__" (.ref ea) [.str name t, v] [] _ SF.kind SF.split ins (SF.args (.ref ea) (.str name t) v) ?_)
  show wpAny (model prog w) A.in1 (Builtin.«object.__setattr__» ⟨[.ref ea, .str name t, v], []⟩) _ _ _
  rw [PySem.W.osa_eq, refuse_eq]
  refine wpAny_bind (wpAny_bind (ty.here (wpAny_bind (mro.here ?_))))
  rw [refuseLoop_ref, B.rf]
  refine wpAny_pure (wpAny_bind (ty.here (wpAny_bind (na.here (wpAny_bind (wpAny_pure ?_))))))
  show wpAny _ _ (Builtin.ObjectAttr.storeInOwnDict (.ref ea) (.ref C) (.str name t) name v false) _ _ _
  unfold Builtin.ObjectAttr.storeInOwnDict
  refine wpAny_bind (wpAny_pure (wpAny_bind (wpAny_bind (wpAny_loadPart hx ?_))))
  show wpAny _ _ (classData C >>= fun cd => if (!cd.hasDict) = true then pure none else (alloc { cls := Value.type "dict", data := Data.dict #[] } >>= fun e => update ea (fun o => { cls := o.cls, dict := some e, data := o.data, slots := o.slots }) >>= fun _ => pure (some e))) _ _ _
  refine wpAny_bind (wpAny_bind (wpAny_load hC (wpAny_pure ?_)))
  rw [if_neg (show ¬ (!true) = true by decide)]
  have hx1 : (h.push { cls := Value.type "dict", data := Data.dict #[] }).get? ea = some (XData C none tb a0) := Heap.get?_push_of_some _ hx
  have ne : ea ≠ h.objs.size := Nat.ne_of_lt (Heap.lt_size hx)
  refine wpAny_bind (wpAny_alloc (wpAny_bind (wpAny_update hx1 (wpAny_pure ?_))))
  have hu : ((h.push { cls := Value.type "dict", data := Data.dict #[] }).update ea fun o => { cls := o.cls, dict := some h.objs.size, data := o.data, slots := o.slots }).get? ea = some (XData C (some h.objs.size) tb a0) := Heap.get?_update_self _ hx1 rfl
  have hd : ((h.push { cls := Value.type "dict", data := Data.dict #[] }).update ea fun o => { cls := o.cls, dict := some h.objs.size, data := o.data, slots := o.slots }).get? h.objs.size = some { cls := Value.type "dict", data := Data.dict #[] } :=
    (Heap.get?_update_other _ _ ne).trans (Heap.get?_push_size _ rfl)
  have hn : ((h.push { cls := Value.type "dict", data := Data.dict #[] }).update ea fun o => { cls := o.cls, dict := some h.objs.size, data := o.data, slots := o.slots }).Ns h.objs.size (fun _ => none) :=
    ⟨_, #[], _, hd, rfl, fun e he => absurd he (by simp), fun _ => rfl⟩
  show wpAny _ _ (Builtin.ObjectAttr.storeInDict h.objs.size (.str name t) name v) _ _ _
  unfold Builtin.ObjectAttr.storeInDict Builtin.ObjectAttr.newKeyGuard
  refine wpAny_bind (wpAny_pure (wpAny_bind (wpAny_nsSet1 (Heap.Ns1.of_empty hn) fun h2 hn2 sb => ?_)))
  obtain ⟨oD, esD, epD, hoD, hdD, hcD⟩ := hn2.count (Within.cons name v Within.nil)
  refine wpAny_bind (wpAny_lookBehind hoD (by rw [hdD]; exact pastItsLine_dict (Nat.le_trans hcD (by rw [List.length_singleton, sizeLine_eq]; omega))) ?_)
  refine wpAny_pure (wpAny_pure (wpAny_pure ?_))
  exact hq h2 _ hn2 ((sb.2 ea ne).trans hu) fun b o hb e => (sb.2 b (Nat.ne_of_lt (Heap.lt_size e))).trans ((Heap.get?_update_other _ _ (Ne.symm hb)).trans (Heap.get?_push_of_some _ e))
theorem x_get {dx : Addr} {name : Str} {v : Value} {m : Str → Option Value} {expr : Bool} {Q : Value → Shared → Prop} (B : XBases bm) (hC : h.get? C = some (excClassObj nm q C N bs bm true sn sub ab col dd k0 k1 k2 k3 k5 "ValueError.__new__"))
    (hx : h.get? ea = some (XData C (some dx) tb a0)) (hm : h.Ns dx m) (hv : m name = some v) (ga : PySem.W.Looks (model prog w) h (typeLookup (.ref C) "__getattribute__") (some (.builtin "BaseException.__getattribute__")))
    (gn : PySem.W.Looks (model prog w) h (typeLookup (.ref C) "__getattr__") none) (na : PySem.W.Looks (model prog w) h (typeLookup (.ref C) name) none) (hh : PySem.W.handedIn v = true)
    (hq : ∀ t', Q v ⟨h, g, d, t', os⟩) : wpAny (model prog w) A (getAttr (.ref ea) name expr) Q E ⟨h, g, d, t, os⟩ := by
  have FX := PySem.F.attr_ValueError
  have ty : PySem.W.Looks (model prog w) h (typeOf (.ref ea)) (.ref C) := (PySem.W.Looks.ld hx).andThen .now
  have sub : PySem.W.Looks (model prog w) h (isSubtype (.ref C) (.type "BaseException")) true := by
    intro A' Q' E' s' k q
    obtain ⟨h2, g2, d2, t2, os2⟩ := s'
    refine wpAny_isSubtype_exc (k _ _ hC) ?_
    rw [List.contains_cons, B.be, Bool.or_true]
    exact q
  have ins : PySem.W.Looks (model prog w) h (isInstance (.ref ea) (.type "BaseException")) true := ty.andThen sub
  have fnd : PySem.W.Looks (model prog w) h (Builtin.ObjectAttr.find (.ref ea) (.ref C) name) (.value v) := by
    intro A' Q' E' s' k q
    unfold Builtin.ObjectAttr.find
    refine wpAny_bind (na _ _ _ _ k (wpAny_bind (wpAny_pure (wpAny_bind (wpAny_pure ?_)))))
    show wpAny _ _ (Builtin.ObjectAttr.ownThenClass (.ref ea) name none none) _ _ _
    unfold Builtin.ObjectAttr.ownThenClass
    refine wpAny_bind (wpAny_bind (wpAny_bind (wpAny_loadPart (k _ _ hx) ?_)))
    show wpAny _ _ (instanceDict ea false) _ _ _
    refine wpAny_bind (wpAny_loadPart (k _ _ hx) ?_)
    show wpAny _ _ (classData C >>= fun cd => if (!cd.hasDict) = true then pure none else pure (some dx)) _ _ _
    refine wpAny_bind (wpAny_bind (wpAny_load (k _ _ hC) (wpAny_pure ?_)))
    rw [if_neg (show ¬ (!true) = true by decide)]
    refine wpAny_pure ?_
    show wpAny _ _ (nsGet dx name) _ _ _
    refine wpAny_nsGet (hm.keeps k) ?_
    rw [hv]
    exact wpAny_bind (wpAny_rule (wpAny_pure q))
  unfold getAttr getAttrBy
  refine wpAny_bind (wpAny_mkText (wpAny_holding (wpAny_bind (ty _ _ _ _ (fun _ _ e => e) (wpAny_bind (ga _ _ _ _ (fun _ _ e => e) ?_))))))
  have n1 : (onTheHeap (Value.ref C) && Value.builtin "BaseException.__getattribute__" == Value.builtin "object.__getattribute__") = false := by
    rw [show (Value.builtin "BaseException.__getattribute__" == Value.builtin "object.__getattribute__") = false by decide +kernel, Bool.and_false]
  show wpAny _ _ (if (onTheHeap (Value.ref C) && Value.builtin "BaseException.__getattribute__" == Value.builtin "object.__getattribute__") = true then _ else _) _ _ _
  rw [if_neg (by rw [n1]; decide)]
  unfold getAttrByItsOwn
  refine wpAny_bind (show wpAny _ _ (hookBefore (.ref C)) _ _ _ from gn _ _ _ _ (fun _ _ e => e) (wpAny_bind (wpAny_attempt (wpAny_holding ?_))))
  unfold callGetattribute
  have n2 : (expr && onTheHeap (Value.builtin "BaseException.__getattribute__")) = false := by cases expr <;> rfl
  rw [n2, if_neg (by decide)]
  unfold boundAndCalled
  rw [FX.ga.bind]
  refine wpAny_bind (wpAny_pure (wpAny_call ?_))
  refine codeAny_call_builtin FX.ga.plain F.entry_bexc_ga (@PySem.W.check_slot (model prog w) _ _ ⟨h, g, d, t + 1, os⟩ "BaseException.__getattribute__" "BaseException" "__getattribute__" (.ref ea) [.str name t] [] _ (by decide +kernel) (by decide +kernel) ins (F.args_bexc_ga (.ref ea) (.str name t)) ?_)
  show wpAny (model prog w) A.in1 (Builtin.«object.__getattribute__» ⟨[.ref ea, .str name t], []⟩) _ _ _
  unfold Builtin.«object.__getattribute__»
  refine wpAny_bind (wpAny_pure (wpAny_bind (wpAny_pure (wpAny_bind (ty.here (wpAny_bind (fnd.here (wpAny_pure ?_))))))))
  show wpAny _ _ (handedOut v) _ _ _
  rw [PySem.W.handedOut_of hh]
  exact wpAny_pure (hq _)
end
end L2
set_option Elab.async false
set_option linter.all false
set_option maxRecDepth 100000
set_option maxHeartbeats 4000000
namespace L2
open PySem PySem.Spec PyProof.Rows
structure XKl (K : PySem.W.Frag) (C : Addr) : Prop extends XCl K C where
  sa : PySem.W.findIn K (.ref C) "__setattr__" = some (some (.builtin "object.__setattr__"))
  ga : PySem.W.findIn K (.ref C) "__getattribute__" = some (some (.builtin "BaseException.__getattribute__"))
  gn : PySem.W.findIn K (.ref C) "__getattr__" = some none
  nw : PySem.W.findIn K (.ref C) "word" = some none
structure XMk (K : PySem.W.Frag) (C f : Addr) : Prop where
  init : PySem.W.findIn K (.ref C) "__init__" = some (some (.ref f))
  fn : PySem.W.isFn K (.ref f) = true
  kp : PySem.W.keepIn K (.ref C) = true
def tXMake (C : Addr) (sp : Sp) (E : XK) : TE := fun _ H Q => ∀ ea, H ea = none → sp [.ref ea] (upd H ea (XO C none .none ea)) (fun v H2 => v = .non ∧ Q (.ref ea) H2) E
section
variable {X : Cx} {CX : CXT} {k : Nat} {f C : Addr} {fd : FuncData} {ps : List Str} {sp : Sp} {E : XK} {x : Str} {p pos apos pos' : Pos} {e o value : Expr} {ta tv te : TE} {t : TA}
theorem pe_xmake0 (XC : XKl X.K C) (M : XMk X.K C f) (F : FnOk X.prog X.w X.K X.mg X.base CX k f fd ps sp) (hr : Room (k + 1) X.A) (hg : Gl X x) (hm : X.mg x = some (.ref C)) (hb : Binds X.K fd ps []) (hx : Passes CX X E)
    (hdb : (x == ("__debug__" : Str)) = false := by decide) : PE X (.Call (.Name x p) [] [] pos) (tXMake C sp E) := by
  intro pins s σ H Q I h
  obtain ⟨nm, q, N, bs, bm, sn, sub, ab, col, dd, k0, k1, k2, k3, k5, lk, B⟩ := XC.obj
  refine wpAny_Call_Name_kw (ld_glob I hg hm ?_ hdb)
  refine PySem.W.callWith_K0 I.kIn M.kp (wpAny_call ?_)
  have I1 : Inv X pins σ H { s with heap := s.heap.push (xTup []) } := I.kept (t' := s.toks) fun b o e => Heap.get?_push_of_some _ e
  have I2 : Inv X pins σ (upd H (s.heap.objs.size + 1) (XO C none .none (s.heap.objs.size + 1))) { s with heap := (s.heap.push (xTup [])).push (xObj C s.heap.objs.size) } := by
    refine I1.laid (a := s.heap.objs.size + 1) (t' := s.toks) (fun b o e => Heap.get?_push_of_some _ e) (Nat.le_of_eq (Heap.size_push ..)) (XO.mk (a0 := s.heap.objs.size) ?_)
    exact Heap.get?_push_at (by rw [Heap.size_push]) rfl
  have hq := h (s.heap.objs.size + 1) (I.hok.fresh (Nat.le_succ _))
  have hl : [Value.ref (s.heap.objs.size + 1)].length = ps.length := by have := F.len _ _ _ _ hq; simpa using this
  have hl2 : ([Value.ref (s.heap.objs.size + 1)] ++ []).length = ps.length := by rw [List.append_nil]; exact hl
  obtain ⟨hh, g, d, t, os⟩ := s
  refine x_make (us := []) B (I.kIn _ _ lk) (PySem.W.looks_findIn I.kIn M.init) (fun self => PySem.W.bind_fn I.kIn self (beq_iff_eq.mp M.fn)) (Nat.zero_le _) ?_
  refine codeAny_mono (F.run _ X.stack _ _ ⟨[Value.ref (hh.objs.size + 1)], []⟩ ([Value.ref (hh.objs.size + 1)] ++ []) [V.ref (hh.objs.size + 1)] _ E (hr.make C [] []) (I2.env0.make C [] []) (hb _ [Value.ref (hh.objs.size + 1)] I2.kIn hl2) (.cons rfl .nil) hq) fun r s' hq' => ?_
  cases r with
  | error e => exact hx pins σ _ _ e s' I2 hq'
  | ok fl =>
    cases fl with
    | ret u =>
      obtain ⟨v, H', I3, rv, ev, q3⟩ := I2.after hq'
      subst ev
      exact ⟨rv, ⟨V.ref (hh.objs.size + 1), H', I3, rfl, q3⟩⟩
    | next => exact False.elim hq'
    | brk => exact False.elim hq'
    | cont => exact False.elim hq'
def tVInit (K : PySem.W.Frag) (t : TA) : TE := fun σ H Q => t σ H fun vs H2 => ∃ ea C dx tb y, vs = [.ref ea, y] ∧ H2 ea = some (XO C dx tb ea) ∧ XKl K C ∧ Q .non H2
theorem ve_find : PySem.W.findCls [] (.type "ValueError") (.type "type") "__init__" = some (.val (.builtin "ValueError.__init__")) := by kernel_rfl
theorem pe_vinit {a b : Expr} {pl : Sem Bool} (hg : Gl X "ValueError") (hm : X.mg "ValueError" = none) (ha : PA X [a, b] t)
    (hst : starEach [a, b] X.env = (false, eval a X.env) :: starEach [b] X.env := by rfl) (hpl : (backTo pos (starEach [b] X.env)).any (·.1) = false := by rfl)
    (ht : eval (.Call (.Attribute (.Name "ValueError" p) "__init__" apos) [a, b] [] pos) X.env = (do
      let ov ← eval (.Name "ValueError" p) X.env
      standAt apos.atName
      let (f, first) ← holding [ov] (getMethod ov "__init__" pl)
      callWith pos f first (backTo pos (starEach [a, b] X.env)) (backToKw pos (keywordEach [] X.env))) := by rfl) :
    PE X (.Call (.Attribute (.Name "ValueError" p) "__init__" apos) [a, b] [] pos) (tVInit X.K t) := by
  intro pins s σ H Q I h
  refine PySem.W.methodCall_KW (pl := pl) (ld_blt I hg hm (u := .type "ValueError") (by rfl) ?_) ht
  obtain ⟨m, fr⟩ := I.fr
  refine PySem.W.method_type fr I.mod.kin (by kernel_rfl) (by decide +kernel) (show PySem.W.findCls X.K (.type "ValueError") (.type "type") "__init__" = some (.val (.builtin "ValueError.__init__")) from ve_find) (by rfl) ?_
  have I0 := I.tok (s.toks + 1)
  refine PyProof.Rows.callWith_builtin1 (thn (ha pos pins _ σ H _ I0 h) fun us s1 ⟨vs, H1, I1, r1, q1⟩ => ?_) hst hpl
  obtain ⟨ea, C, dx, tb, y, rfl, e1, XC, q⟩ := q1
  obtain ⟨u, v, rfl, ru, rv⟩ := r1.two
  cases ru
  obtain ⟨nm, qn, N, bs, bm, sn, sub, ab, col, dd, k0, k1, k2, k3, k5, lk, B⟩ := XC.obj
  obtain ⟨a0, ea1⟩ := XO.at I1.hok e1
  have I2 : Inv X pins σ H1 { s1 with heap := s1.heap.push (xTup [v]) } := I1.kept (t' := s1.toks) fun b o e => Heap.get?_push_of_some _ e
  have I3 := I2.xset (i := 0) (v := .ref s1.heap.objs.size) (a1 := s1.heap.objs.size) e1 (Heap.get?_push_of_some _ ea1) rfl
  rw [upd_id e1] at I3
  obtain ⟨hh, g, d, tt, os⟩ := s1
  exact x_init (us := [v]) B (I1.kIn _ _ lk) ea1 (by show 1 ≤ sizeLine; rw [sizeLine_eq]; omega) ⟨.non, H1, I3, rfl, q⟩
end
end L2
set_option Elab.async false
set_option linter.all false
set_option maxRecDepth 100000
set_option maxHeartbeats 4000000
namespace L2
open PySem PySem.Spec PyProof.Rows
structure XAt (K : PySem.W.Frag) (C : Addr) (m : Str) (f : Addr) : Prop where
  ga : PySem.W.specialIn K (.ref C) "__getattribute__" = some (some (.builtin "type.__getattribute__"))
  rd : PySem.W.readsIn K C (.type "type") = true
  fd : PySem.W.findCls K (.ref C) (.type "type") m = some (.val (.ref f))
  kp : PySem.W.keepIn K (.ref f) = true
section
variable {X : Cx} {CX : CXT} {k : Nat} {f C : Addr} {fd : FuncData} {ps : List Str} {sp : Sp} {E : XK} {x m : Str} {p pos apos pos' : Pos} {e o value : Expr} {es : List Expr} {ta tv te : TE} {t : TA}
theorem pe_cmeth {pl : Sem Bool} (Z : XAt X.K C m f) (F : FnOk X.prog X.w X.K X.mg X.base CX k f fd ps sp) (hr : Room k X.A) (hg : Gl X x) (hm : X.mg x = some (.ref C)) (hb : Binds X.K fd ps []) (hx : Passes CX X E) (ha : PA X (e :: es) t)
    (hst : starEach (e :: es) X.env = (false, eval e X.env) :: starEach es X.env := by rfl) (hpl : (backTo pos (starEach es X.env)).any (·.1) = false := by rfl) (hdb : (x == ("__debug__" : Str)) = false := by decide)
    (ht : eval (.Call (.Attribute (.Name x p) m apos) (e :: es) [] pos) X.env = (do
      let ov ← eval (.Name x p) X.env
      standAt apos.atName
      let (f, first) ← holding [ov] (getMethod ov m pl)
      callWith pos f first (backTo pos (starEach (e :: es) X.env)) (backToKw pos (keywordEach [] X.env))) := by rfl) :
    PE X (.Call (.Attribute (.Name x p) m apos) (e :: es) [] pos) (tCall sp [] E t) := by
  intro pins s σ H Q I h
  refine PySem.W.methodCall_KW (pl := pl) (ld_glob I hg hm ?_ hdb) ht
  refine PySem.W.method_cls I.kIn Z.ga (PySem.W.cls_value I.kIn Z.rd Z.fd (by rfl) ?_)
  have I0 := I.tok (s.toks + 1)
  refine PySem.W.callWith_K (first := []) (h₀ := X.base) I.ok.mod.kin Z.kp (thn (ha pos pins _ σ H _ I0 h) fun us s1 ⟨vs, H1, I1, r, q⟩ => ⟨I1.kIn, ?_⟩) hst hpl
  exact run_fn F hr hb .nil hx I1 r q
def sXFld (K : PySem.W.Frag) (ta tv : TE) (n : Str) : TS := fun D σ H => tv σ H fun y H1 => ta σ H1 fun x H2 => ∃ ea C tb, x = .ref ea ∧ H2 ea = some (XO C none tb ea) ∧ XKl K C ∧ PySem.W.findIn K (.ref C) n = some none ∧
  ∀ dx, H2 dx = none → D.nx σ (upd (upd H2 ea (XO C (some dx) tb ea)) dx (.xd [(n, y)]))
theorem ps_xfld {n : Str} (ha : PE X o ta) (hv : PE X value tv) (hs : swapsWith value (some (.Attribute o n pos')) pos.line X.env = pure false := by rfl) : PS X (.Assign [.Attribute o n pos'] value pos) (sXFld X.K ta tv n) := by
  intro pins s σ H D I h
  refine plainObj_wpAny_Assign_Attribute (thn (hv pins s σ H _ I h) fun u s1 ⟨y, H1, I1, ry, q⟩ => thn (ha pins s1 σ H1 _ I1 q) fun ov s2 ⟨x, H2, I2, rx, ea, C, tb, ex, e1, XC, nw, q2⟩ => ?_) hs
  subst ex
  obtain rfl : ov = Value.ref ea := rx
  obtain ⟨nm, qn, N, bs, bm, sn, sub, ab, col, dd, k0, k1, k2, k3, k5, lk, B⟩ := XC.obj
  obtain ⟨a0, q1⟩ := XO.at I2.hok e1
  have fresh : H2 s2.heap.objs.size = none := I2.hok.fresh (Nat.le_refl _)
  have ne : ea ≠ s2.heap.objs.size := fun z => by rw [z, fresh] at e1; cases e1
  have K2 := I2.kIn
  obtain ⟨hh, g, d, tt, os⟩ := s2
  refine x_set (name := n) (v := u) B (K2 _ _ lk) q1 (PySem.W.looks_findIn K2 XC.sa) (PySem.W.looks_findIn K2 nw) fun h' t' hn hx hk => ?_
  have lt : ea < hh.objs.size := Heap.lt_size q1
  have un : Un X.fs [] H2 (upd (upd H2 ea (XO C (some hh.objs.size) tb ea)) hh.objs.size (.xd [(n, y)])) hh h' := by
    have ntr : ∀ b, H2 b = none → b ≠ ea := fun b z q => by rw [q, e1] at z; cases z
    have hb : ∀ b o, hh.get? b = some o → b ≠ hh.objs.size := fun b o e => Nat.ne_of_lt (Heap.lt_size e)
    refine ⟨fun b o e n0 _ _ => hk b o (ntr b n0) e, fun b o e n0 _ _ => ⟨o.slots, hk b o (ntr b n0) e⟩, fun b o e n0 _ => ?_, fun b o e _ => ?_, fun b xs z => ?_, fun b o u z => ?_, fun b ps z => ⟨#[], ?_⟩⟩
    · rw [upd_ne (hb b o e), upd_ne (ntr b n0)]; exact n0
    · by_cases z : b = ea
      · subst z; exact ⟨_, hx⟩
      · exact ⟨o, hk b o z e⟩
    · rw [upd_ne (ne_of_none z fresh), upd_ne (ne_of z e1 (by intro q; cases q))]; exact z
    · rw [upd_ne (ne_of_none z fresh), upd_ne (ne_of z e1 (by intro q; cases q))]; exact z
    · rw [upd_ne (ne_of_none z fresh), upd_ne (ne_of z e1 (by intro q; cases q))]; simpa using z
  have hok : HOk X.prog X.w (upd (upd H2 ea (XO C (some hh.objs.size) tb ea)) hh.objs.size (.xd [(n, y)])) h' := fun b o z => by
    by_cases b1 : b = hh.objs.size
    · subst b1
      rw [upd_same] at z; cases z
      refine ⟨_, hn, fun w' => ?_⟩
      by_cases hw : w' = n
      · subst hw
        rw [List.lookup_cons, beq_self_eq_true, if_pos rfl]
        exact ry
      · have hw' : (w' == n) = false := by simpa using hw
        rw [List.lookup_cons, hw', if_neg hw]
        trivial
    · rw [upd_ne b1] at z
      by_cases b2 : b = ea
      · subst b2
        rw [upd_same] at z; cases z
        exact XO.mk hx
      · rw [upd_ne b2] at z
        refine (I2.hok b o z).stay (fun c u hc q => hk c u ?_ q) (fun c q => ?_) fun c xs q => ?_
        · rcases hc with hc | hc
          · rw [hc]; exact b2
          · exact ne_of hc e1 (by intro q; cases q)
        · rw [upd_ne (ne_of_none q fresh), upd_ne (ne_of q e1 (by intro q; cases q))]; exact q
        · rw [upd_ne (ne_of_none q fresh), upd_ne (ne_of q e1 (by intro q; cases q))]; exact q
  exact ⟨σ, _, I2.un (h' := h') (t' := t') un hok, q2 _ fresh⟩
def tXGet (K : PySem.W.Frag) (ta : TE) (n : Str) : TE := fun σ H Q => ta σ H fun x H1 => ∃ ea C dx tb fs v, x = .ref ea ∧ H1 ea = some (XO C (some dx) tb ea) ∧ H1 dx = some (.xd fs) ∧ fs.lookup n = some v ∧ XKl K C ∧ PySem.W.findIn K (.ref C) n = some none ∧ Q v H1
theorem pe_xget {n : Str} (he : PE X e ta) (hb : attributeBase e n X.env (eval e X.env) = eval e X.env := by rfl) : PE X (.Attribute e n pos) (tXGet X.K ta n) := by
  intro pins s σ H Q I h
  refine attr_of hb (thn (he pins s σ H _ I h) fun u s1 ⟨x, H1, I1, rx, ea, C, dx, tb, fs, v, ex, e1, e2, l, XC, nw, q⟩ => ?_)
  subst ex
  obtain rfl : u = Value.ref ea := rx
  obtain ⟨nm, qn, N, bs, bm, sn, sub, ab, col, dd, k0, k1, k2, k3, k5, lk, B⟩ := XC.obj
  obtain ⟨a0, q1⟩ := XO.at I1.hok e1
  obtain ⟨m, hm, hr⟩ := I1.hok dx _ e2
  have rv := hr n
  rw [l] at rv
  cases z : m n with
  | none => rw [z] at rv; exact rv.elim
  | some u =>
    rw [z] at rv
    have K1 := I1.kIn
    have J := I1
    obtain ⟨hh, g, d, tt, os⟩ := s1
    exact x_get B (K1 _ _ lk) q1 hm.ns z (PySem.W.looks_findIn K1 XC.ga) (PySem.W.looks_findIn K1 XC.gn) (PySem.W.looks_findIn K1 nw) (handed_of rv) fun t' => ⟨v, H1, J.tok t', rv, q⟩
def tRaise (K : PySem.W.Frag) (te : TE) (E : XK) : TS := fun _ σ H => te σ H fun x H1 => ∃ ea C dx, x = .ref ea ∧ H1 ea = some (XO C (some dx) .none ea) ∧ XKl K C ∧ E (.ref C) (some dx) (fun b => if b = ea then none else H1 b)
theorem ps_raise (hc : X.calm = true) (hx : Passes (CXE X.prog X.w) X E) (he : PE X e te) : PS X (.Raise (some e) none pos) (tRaise X.K te E) := by
  intro pins s σ H D I h
  rw [arm_exec_Raise]
  show wpAny _ _ (standAt pos >>= fun _ => raiseStmt X.env (some (eval e X.env >>= fun v => standAt pos >>= fun _ => pure v)) none) _ _ s
  refine wpAny_bind (wpAny_standAt ?_)
  have key : wpAny (model X.prog X.w) X.A (eval e X.env >>= fun v => standAt pos >>= fun _ => raiseStmt X.env (some (pure v)) none) (SP X pins D) X.xe s := by
    refine wpAny_bind (thn (he pins s σ H _ I h) fun u s1 ⟨x, H1, I1, rx, ea, C, dx, ex, e1, XC, q⟩ => ?_)
    subst ex
    obtain rfl : u = Value.ref ea := rx
    obtain ⟨nm, qn, N, bs, bm, sn, sub, ab, col, dd, k0, k1, k2, k3, k5, lk, B⟩ := XC.obj
    obtain ⟨a0, q1⟩ := XO.at I1.hok e1
    refine wpAny_bind (wpAny_standAt ?_)
    have fin : X.xe (.ref ea) s1 := hx pins σ H1 s1 (.ref ea) s1 I1 ⟨ea, C, dx, .none, _, H1, rfl, rfl, I1.bare, Un.refl, I1.hok, e1, .inl rfl, fun b o hb z => by rw [if_neg hb] at z; exact z, if_pos rfl, q⟩
    have K1 := I1.kIn
    have hd := I1.ok.hd hc
    obtain ⟨hh, g, d, tt, os⟩ := s1
    exact x_raise B hd (K1 _ _ lk) q1 fin
  have e1 : ∀ y : Sem Value, raiseStmt X.env (some y) none = y >>= fun v => raiseStmt X.env (some (pure v)) none := fun y => by
    unfold raiseStmt
    simp only [pure_bind]
  rw [e1, bind_assoc]
  simp only [bind_assoc, pure_bind]
  exact key
end
end L2
set_option Elab.async false
set_option linter.all false
set_option maxRecDepth 100000
set_option maxHeartbeats 4000000
namespace L2
open PySem PySem.Spec PyProof.Rows
structure XSub (K : PySem.W.Frag) (C W : Addr) : Prop where
  obj : ∃ (nm q : Str) (N : Addr) (bs bm : List Value) (sn : List Str) (sub : List Value) (ab : Bool) (col : Option Bool) (dd : Option Addr) (k0 k1 k2 k3 k5 : Option Value),
    K.lookup C = some (excClassObj nm q C N bs bm true sn sub ab col dd k0 k1 k2 k3 k5 "ValueError.__new__") ∧ (Value.ref C :: bm).contains (.ref W) = true
section
variable {M : Model} {A : Around} {E : Value → Shared → Prop} {h : Heap} {g : Array GenState} {d : Drawn} {t : Nat} {os : OsState}
variable {nm q nm' q' : Str} {C N W N' : Addr} {bs bm bs' bm' : List Value} {sn sn' : List Str} {sub sub' : List Value} {ab ab' : Bool} {col col' : Option Bool} {dd dd' : Option Addr} {k0 k1 k2 k3 k5 l0 l1 l2 l3 l5 : Option Value} {ea : Addr} {oe : Obj}
theorem x_match {Q : Bool → Shared → Prop} (hC : h.get? C = some (excClassObj nm q C N bs bm true sn sub ab col dd k0 k1 k2 k3 k5 "ValueError.__new__")) (hW : h.get? W = some (excClassObj nm' q' W N' bs' bm' true sn' sub' ab' col' dd' l0 l1 l2 l3 l5 "ValueError.__new__"))
    (B : XBases bm') (hs : (Value.ref C :: bm).contains (.ref W) = true) (he : h.get? ea = some oe) (hc : oe.cls = .ref C) (hq : Q true ⟨h, g, d, t, os⟩) : wpAny M A (excMatches (.ref ea) (.ref W)) Q E ⟨h, g, d, t, os⟩ := by
  have c1 : (Value.ref W :: bm').contains (.type "BaseException") = true := by rw [List.contains_cons, B.be, Bool.or_true]
  have f := tc_notTuple
  unfold excMatches
  repeat (first | (with_reducible refine wpAny_loadPart_at he ?_; rw [hc]) | with_reducible refine wpAny_loadPart_at hW ?_ | (with_reducible refine wpAny_isSubtype_exc hW ?_; rw [c1]) | (with_reducible refine wpAny_isSubtype_exc hC ?_; rw [hs]) | wp_step)
  exact hq
end
abbrev Cx.guard (X : Cx) (pins : List (Addr × Obj)) (Ey : Value → Shared → Prop) : Cx := { X with pn := X.pn ++ pins, xe := Ey }
abbrev Cx.suite (X : Cx) (ea : Addr) : Cx := { X with A := X.A.mark (some (.ref ea)), calm := false, xe := fun _ _ => False }
section
variable {X : Cx} {pins : List (Addr × Obj)} {σ : St} {H : Hp} {s : Shared} {Ey : Value → Shared → Prop} {ea : Addr}
theorem Cx.Ok.guard (ok : X.Ok) : (X.guard pins Ey).Ok := ⟨ok.mod, ok.kind, ok.glob, ok.blt, ok.above, ok.inj, ok.has, ok.cab, ok.hd, ok.frames, ok.stk, ok.exf, ok.bs, ok.bsz, ok.noex, ok.exfs, ok.funs, ok.frf⟩
theorem Cx.Ok.unguard (ok : (X.guard pins Ey).Ok) : X.Ok := ⟨ok.mod, ok.kind, ok.glob, ok.blt, ok.above, ok.inj, ok.has, ok.cab, ok.hd, ok.frames, ok.stk, ok.exf, ok.bs, ok.bsz, ok.noex, ok.exfs, ok.funs, ok.frf⟩
theorem Cx.Ok.suite (ok : X.Ok) : (X.suite ea).Ok := ⟨ok.mod, ok.kind, ok.glob, ok.blt, ok.above, ok.inj, ok.has, ok.cab, fun z => absurd (show false = true from z) (by decide), ok.frames, ok.stk, ok.exf, ok.bs, ok.bsz, ok.noex, ok.exfs, ok.funs, ok.frf⟩
theorem Inv.guard (I : Inv X pins σ H s) : Inv (X.guard pins Ey) [] σ H s := ⟨I.ok.guard, I.os, I.bare, I.base, I.loc, I.cell, I.free, I.freeC, fun p hp => I.pin p (by simpa using hp), I.hok, I.len⟩
theorem Inv.unguard {pins' : List (Addr × Obj)} (I : Inv (X.guard pins Ey) pins' σ H s) : Inv X pins σ H s := ⟨I.ok.unguard, I.os, I.bare, I.base, I.loc, I.cell, I.free, I.freeC, fun p hp => I.pin p (List.mem_append_left _ hp), I.hok, I.len⟩
theorem Inv.suite (I : Inv X pins σ H s) : Inv (X.suite ea) pins σ H s := ⟨I.ok.suite, I.os, I.bare, I.base, I.loc, I.cell, I.free, I.freeC, I.pin, I.hok, I.len⟩
theorem Inv.unsuite (ok : X.Ok) (I : Inv (X.suite ea) pins σ H s) : Inv X pins σ H s := ⟨ok, I.os, I.bare, I.base, I.loc, I.cell, I.free, I.freeC, I.pin, I.hok, I.len⟩
def blank (n : Nat) : St := List.replicate n none
theorem Inv.blank (I : Inv X pins σ H s) : Inv X pins (L2.blank X.N.length) H s := I.weak (by unfold L2.blank; rw [List.length_replicate, I.len]) fun i v e => by
  unfold L2.blank at e
  rw [List.getElem?_replicate] at e
  split at e <;> cases e
theorem Inv.lost {h' : Heap} {tk : Nat} {m : Str → Option Value} (I : Inv X pins σ H s) (hn : h'.Ns X.env.locals m) (hs : Heap.SameBut X.env.locals s.heap h') : Inv X pins (L2.blank X.N.length) H { s with heap := h', toks := tk } := by
  have neL : ∀ b o, X.s₀.heap.get? b = some o → b ≠ X.env.locals := fun b o e => Nat.ne_of_lt (Nat.lt_of_lt_of_le (Heap.lt_size e) I.ok.above)
  refine ⟨I.ok, I.os, I.bare, ⟨fun b o e n hb hx => ?_, fun b o e n hb hx => ?_, I.base.free, fun b o e hx => ?_, I.base.tups, I.base.frzs, I.base.tbls⟩, ⟨m, hn, fun i x v _ e2 => ?_⟩, fun x c e => ?_, I.free, I.freeC, fun p hp => ?_, fun b o e => ?_, by unfold L2.blank; rw [List.length_replicate]⟩
  · exact (hs.2 b (neL b o e)).trans (I.base.keep b o e n hb hx)
  · obtain ⟨sl, q⟩ := I.base.slot b o e n hb hx
    exact ⟨sl, (hs.2 b (neL b o e)).trans q⟩
  · obtain ⟨o', q⟩ := I.base.there b o e hx
    exact ⟨o', (hs.2 b (neL b o e)).trans q⟩
  · unfold L2.blank at e2
    rw [List.getElem?_replicate] at e2
    split at e2 <;> cases e2
  · obtain ⟨v, q⟩ := I.cell x c e
    exact ⟨v, q.sameBut hs (I.cne x c e)⟩
  · obtain ⟨e, n, ne, nf, d⟩ := I.pin p hp
    exact ⟨(hs.2 p.1 ne).trans e, n, ne, nf, d⟩
  · refine (I.hok b o e).stay (fun c u hc q => (hs.2 c ?_).trans q) (fun _ q => q) fun _ _ q => q
    rintro rfl
    rcases hc with z | z
    · rw [← z, I.free] at e; cases e
    · rw [I.free] at z; cases z
end
def Ends.behind (D : Ends) (n : Nat) : Ends := { nx := fun _ H => D.nx (blank n) H, rt := D.rt, bk := fun _ H => D.bk (blank n) H, ct := fun _ H => D.ct (blank n) H }
def tTry (K : PySem.W.Frag) (n W : Nat) (Eh : XK) (i : Nat) (tb th : TS) : TS := fun D σ H => tb D σ H ∧ ∀ (C dx : Addr) (H0 : Hp) (ea T : Addr) (H' : Hp), Eh (.ref C) (some dx) H0 → SameX ea H0 H' → H0 ea = none → H' ea = some (XO C (some dx) (.ref T) ea) →
  XSub K C W ∧ th (D.behind n) ((blank n).set i (some (.ref ea))) H'
section
variable {X : Cx}
theorem ps_try {body suite : List Stmt} {b₀ : Stmt} {pW hpos pos : Pos} {xW x : Str} {W : Addr} {i : Nat} {Eh : XK} {tb th : TS} (hst : X.stack = X.env :: X.outer) (hL : X.env.frame = some X.env.locals) (hN : X.N.Nodup) (hx : X.N[i]? = some x) (hl : X.env.kindOf x = some .local)
    (hg : Gl X xW) (hm : X.mg xW = some (.ref W)) (XW : XKl X.K W) (hb : ∀ pins Ey, Passes (CXE X.prog X.w) (X.guard pins Ey) Eh → PSs (X.guard pins Ey) body tb) (hh : ∀ ea, PSs (X.suite ea) (b₀ :: suite) th) (hdb : (xW == ("__debug__" : Str)) = false := by decide) :
    PS X (.Try body [.ExceptHandler (some (.Name xW pW)) (some x) (b₀ :: suite) hpos] [] [] pos) (tTry X.K X.N.length W Eh i tb th) := by
  intro pins s σ H D I h
  obtain ⟨h1, h2⟩ := h
  have hfr : X.A.frames = some (X.env :: X.outer) := by rw [I.ok.frames, hst]
  refine wpAny_Try_except ?_
  have pass : Passes (CXE X.prog X.w) (X.guard pins fun e s₁ => wpAny (model X.prog X.w) X.A (noteFrame e X.env) (fun _ s₂ => wpAny (model X.prog X.w) X.A (setFlight e none) (fun _ s₃ => wpAny (model X.prog X.w) X.A (handleBy e X.env [.ExceptHandler (some (.Name xW pW)) (some x) (b₀ :: suite) hpos]) (SP X pins D) X.xe s₃) X.xe s₂) X.xe s₁) Eh := by
    intro pins1 σ1 H1 s1 e s2 I1 hce
    obtain ⟨ea, C, dx, tb', H0, H2, rfl, os, bare, un, hok, e1, ht, sx, n0, q⟩ := hce
    have J := (I1.call' (ch := []) os un hok bare fun b z => absurd z (by simp)).unguard
    refine note_ok hst hL J e1 ht fun s3 ⟨T, nT, neT, J3⟩ => ?_
    have e3 : upd (upd H2 T (TB (rawInt X.env.locals) T)) ea (XO C (some dx) (.ref T) ea) ea = some (XO C (some dx) (.ref T) ea) := upd_same
    have t3 : upd (upd H2 T (TB (rawInt X.env.locals) T)) ea (XO C (some dx) (.ref T) ea) T = some (TB (rawInt X.env.locals) T) := by rw [upd_ne neT, upd_same]
    refine flight_ok J3 e3 t3 fun s4 J4 => ?_
    generalize hH4 : upd (upd (upd H2 T (TB (rawInt X.env.locals) T)) ea (XO C (some dx) (.ref T) ea)) T (TB .none T) = H4 at J4
    have e4 : H4 ea = some (XO C (some dx) (.ref T) ea) := by rw [← hH4, upd_ne (Ne.symm neT)]; exact e3
    have t4 : H4 T = some (TB .none T) := by rw [← hH4]; exact upd_same
    have sx4 : SameX ea H0 H4 := fun b o hb z => by
      have hT : b ≠ T := ne_of_none (sx b o hb z) nT
      rw [← hH4, upd_ne hT, upd_ne hb, upd_ne hT]
      exact sx b o hb z
    obtain ⟨sub, qh⟩ := h2 C dx H0 ea T H4 q sx4 n0 e4
    obtain ⟨nm, qn, N, bs, bm, sn, sb, ab, col, dd, k0, k1, k2, k3, k5, lk, cW⟩ := sub.obj
    obtain ⟨nm', qn', N', bs', bm', sn', sb', ab', col', dd', l0, l1, l2, l3, l5, lk', BW⟩ := XW.obj
    refine wpAny_handleBy_cons (codeAny_handlers_test ?_) (by intro z; cases z)
    have J5 : Inv (X.suite ea) pins σ1 H4 s4 := J4.suite
    refine ld_glob J5 hg hm ?_ hdb
    obtain ⟨a0, q4⟩ := XO.at J4.hok e4
    have K4 := J4.kIn
    have J6 := J4.blank
    obtain ⟨hh4, g4, d4, tk4, os4⟩ := s4
    refine x_match (K4 _ _ lk) (K4 _ _ lk') BW cW q4 rfl ?_
    refine codeAny_handlers_suite_as ?_
    refine flight_ok J4 e4 t4 fun s5 J7 => ?_
    rw [upd_id t4] at J7
    refine store_ok J7.blank hN hx (.inl hl) (v := .ref ea) rfl (fun s6 J8 => ?_) (.inr hl)
    refine wpAny_mono (hh ea pins s6 _ H4 _ (J8.suite (ea := ea)) qh) (fun fl s7 q7 => ?_) fun _ _ z => z.elim
    have done : ∀ {σ7 : St} {H7 : Hp}, Inv (X.suite ea) pins σ7 H7 s7 → ∀ R : St → Hp → Flow → Prop, R (blank X.N.length) H7 fl → (∀ s8, Inv X pins (blank X.N.length) H7 s8 → R (blank X.N.length) H7 fl → SP X pins D fl s8) →
        wpAny (model X.prog X.w) X.A (do bindName X.env x .none; unbindBehindTheSuite X.env x hpos) (fun _ s8 => SP X pins D fl s8) X.xe s7 := fun {σ7 H7} J R r k => by
      have J' := J.unsuite I.ok
      obtain ⟨m, hm', _⟩ := id J'.loc
      refine wpAny_nameGoes hl hm' (by rw [I.ok.kind]; rfl) fun h8 m8 hn8 hs8 => ?_
      exact k _ (J'.lost hn8 hs8) r
    cases fl with
    | next =>
      obtain ⟨σ7, H7, J9, r⟩ := q7
      exact done J9 (fun σ H _ => D.nx σ H) r fun s8 J10 r => ⟨_, _, J10, r⟩
    | brk =>
      obtain ⟨σ7, H7, J9, r⟩ := q7
      exact done J9 (fun σ H _ => D.bk σ H) r fun s8 J10 r => ⟨_, _, J10, r⟩
    | cont =>
      obtain ⟨σ7, H7, J9, r⟩ := q7
      exact done J9 (fun σ H _ => D.ct σ H) r fun s8 J10 r => ⟨_, _, J10, r⟩
    | ret u =>
      obtain ⟨v, σ7, H7, J9, ru, r⟩ := q7
      exact done J9 (fun _ H _ => D.rt v H) r fun s8 J10 r => ⟨v, _, _, J10, ru, r⟩
  refine wpAny_mono (hb pins _ pass [] s σ H D I.guard h1) (fun fl s1 q => ?_) fun _ _ z => z
  have un : SP X pins D fl s1 := by
    cases fl with
    | next => obtain ⟨σ', H', J, r⟩ := q; exact ⟨σ', H', J.unguard, r⟩
    | brk => obtain ⟨σ', H', J, r⟩ := q; exact ⟨σ', H', J.unguard, r⟩
    | cont => obtain ⟨σ', H', J, r⟩ := q; exact ⟨σ', H', J.unguard, r⟩
    | ret u => obtain ⟨v, σ', H', J, ru, r⟩ := q; exact ⟨v, σ', H', J.unguard, ru, r⟩
  cases fl with
  | next => exact wpAny_execs_nil un
  | brk => exact un
  | cont => exact un
  | ret u => exact un
end
end L2
set_option Elab.async false
set_option linter.all false
set_option maxRecDepth 100000
set_option maxHeartbeats 4000000
namespace L2
open PySem PySem.Spec PyProof.Rows
theorem nea {a b : Nat} (h : ¬ a = b) : (a : Addr) ≠ b := h
def StrIt (h : Heap) (a : Addr) (x : Str) (i : Nat) : Prop := ∃ ty t, h.IsStrIter a ty x t i ∧ (ty = "str_ascii_iterator" ∨ ty = "str_iterator")
theorem StrIt.at {h h' : Heap} {a : Addr} {x : Str} {i : Nat} (st : StrIt h a x i) (k : ∀ o, h.get? a = some o → h'.get? a = some o) : StrIt h' a x i := by
  obtain ⟨ty, t, ⟨o, e, r⟩, z⟩ := st
  exact ⟨ty, t, ⟨o, k o e, r⟩, z⟩
theorem StrIt.obj {h : Heap} {a : Addr} {x : Str} {i : Nat} (st : StrIt h a x i) : ∃ o, h.get? a = some o ∧ ∀ v, o.data ≠ .cell v := by
  obtain ⟨ty, t, ⟨o, e, c, d⟩, z⟩ := st
  exact ⟨o, e, fun v q => by rw [d] at q; cases q⟩
section
variable {prog : Program} {w : World} {A : Around} {E : Value → Shared → Prop} {s : Shared} {a : Addr} {x : Str} {i c : Nat}
theorem iterStr {t : Tok} {Q : Value → Shared → Prop} (h : ∀ o : Obj, StrIt (s.heap.push o) s.heap.objs.size x 0 → Q (.ref s.heap.objs.size) { s with heap := s.heap.push o }) : wpAny (model prog w) A (pyIter (.str x t)) Q E s := by
  refine wpAny_pyIter_strU (h _ ?_)
  have e := Heap.get?_push_size s.heap (o := { cls := .type (strIterType x), data := .fields #[.str x t, .int 0 0] }) rfl
  refine ⟨strIterType x, t, ⟨_, e, rfl, rfl⟩, ?_⟩
  unfold strIterType
  split
  · exact .inl rfl
  · exact .inr rfl
end
structure Z3 (n : Nat) (x y z : Str) (i : Nat) (f0 : Value) (h : Heap) : Prop where
  zz : h.get? (n + 5) = some { cls := .type "zip", dict := none, data := .fields #[f0, .bool false, .bool false, .ref (n + 3), .ref (n + 4)], slots := #[] }
  ti : h.get? (n + 3) = some { cls := .type "tuple", data := .seq #[.ref n, .ref (n + 1), .ref (n + 2)] }
  to : ∃ a b c, h.get? (n + 4) = some { cls := .type "tuple", data := .seq #[a, b, c] }
  i1 : StrIt h n x i
  i2 : StrIt h (n + 1) y i
  i3 : StrIt h (n + 2) z i
structure Z2 (n : Nat) (x y : Str) (i : Nat) (f0 : Value) (h : Heap) : Prop where
  zz : h.get? (n + 4) = some { cls := .type "zip", dict := none, data := .fields #[f0, .bool false, .bool false, .ref (n + 2), .ref (n + 3)], slots := #[] }
  ti : h.get? (n + 2) = some { cls := .type "tuple", data := .seq #[.ref n, .ref (n + 1)] }
  to : ∃ a b, h.get? (n + 3) = some { cls := .type "tuple", data := .seq #[a, b] }
  i1 : StrIt h n x i
  i2 : StrIt h (n + 1) y i
section
variable {prog : Program} {w : World} {A : Around} {E : Value → Shared → Prop} {s : Shared} {n : Nat} {x y z : Str} {i c1 c2 c3 : Nat}
theorem updTup {T : Addr} {vs : Array Value} {u : Value} {k : Nat} {Q : Unit → Shared → Prop} (hT : s.heap.get? T = some { cls := .type "tuple", data := .seq vs }) (hv : vs.size ≤ 3)
    (h : ∀ h', h'.get? T = some { cls := .type "tuple", data := .seq (vs.setIfInBounds k u) } → Heap.SameBut T s.heap h' → Q () { s with heap := h' }) : wpAny (model prog w) A (updateSeq T (·.setIfInBounds k u)) Q E s := by
  refine wpAny_updateSeq (hz := by rw [sizeLine_eq]; omega) (_hz' := by rw [Array.size_setIfInBounds, sizeLine_eq]; omega) hT rfl (h _ ?_ (Heap.SameBut.update ..))
  rw [Heap.get?_update_self _ hT rfl]
  simp [Obj.mapSeq]
end
end L2
set_option Elab.async false
set_option linter.all false
set_option maxRecDepth 100000
set_option maxHeartbeats 4000000
namespace L2
open PySem PySem.Spec PyProof.Rows
section
variable {prog : Program} {w : World} {A : Around} {E : Value → Shared → Prop} {s : Shared} {n : Nat} {x y z : Str} {i c1 c2 c3 : Nat}
theorem zip_nextItem {zz : Nat} {o : Obj} {Q : Option Value → Shared → Prop} (ho : s.heap.get? zz = some o) (hc : o.cls = .type "zip") (h : wpAny (model prog w) A.in1 (Builtin.«zip.__next__» ⟨[.ref zz], []⟩) (fun fin s' => ∃ v, fin = .done (.ret v) ∧ Q (some v) s') (fun _ _ => False) s) :
    wpAny (model prog w) A (pyNext (.ref zz)) Q E s := by
  have hT : s.TypeIs (.ref zz) "zip" := ⟨_, ho, hc⟩
  unfold pyNext
  refine wpAny_bind (wpAny_attempt (wpAny_callSpecial?_slot (name := Str.ofString "__next__") hT F.slot_zip_next (wpAny_call_entry F.slot_zip_next hT F.entry_zip_next (wpAny_mono h (fun fin s' q => ?_) fun _ _ q => q.elim) (F.args_zip_next_1 _))))
  obtain ⟨v, e, q⟩ := q
  exact ⟨v, e, wpAny_pure q⟩
theorem zip_nextEnd {zz : Nat} {o : Obj} {Q : Option Value → Shared → Prop} (ho : s.heap.get? zz = some o) (hc : o.cls = .type "zip")
    (h : wpAny (model prog w) A.in1 (Builtin.«zip.__next__» ⟨[.ref zz], []⟩) (fun _ _ => False) (fun e s' => ∃ ea o, e = .ref ea ∧ s'.heap.get? ea = some o ∧ o.cls = .type "StopIteration" ∧ Q none s') s) :
    wpAny (model prog w) A (pyNext (.ref zz)) Q E s := by
  have hT : s.TypeIs (.ref zz) "zip" := ⟨_, ho, hc⟩
  unfold pyNext
  refine wpAny_bind (wpAny_attempt (wpAny_callSpecial?_slot (name := Str.ofString "__next__") hT F.slot_zip_next (wpAny_call_entry F.slot_zip_next hT F.entry_zip_next (wpAny_mono h (fun _ _ q => q.elim) fun e s' q => ?_) (F.args_zip_next_1 _))))
  obtain ⟨ea, oe, rfl, hoe, hce, q⟩ := q
  refine wpAny_bind (wpAny_isInstance (T := "StopIteration") (b := true) ⟨oe, hoe, hce⟩ isSubtype_stop ?_)
  exact wpAny_pure q
theorem zip_self {zz : Nat} {o : Obj} {Q : Value → Shared → Prop} (ho : s.heap.get? zz = some o) (hc : o.cls = .type "zip") (h : Q (.ref zz) s) : wpAny (model prog w) A (pyIter (.ref zz)) Q E s := by
  have hT : s.TypeIs (.ref zz) "zip" := ⟨_, ho, hc⟩
  refine wpAny_pyIter_slot hT F.slot_zip_iter (wpAny_call_entry F.slot_zip_iter hT F.entry_zip_iter ?_ (F.args_zip_iter_1 _))
  show wpAny _ _ (ret (.ref zz)) _ _ s
  exact wpAny_pure ⟨_, rfl, "zip", _, hT, F.slot_zip_next.lookup, h⟩
theorem zip_go {elts : List Expr} {k : Nat} {pos : Pos} {zz TI TO T : Nat} {Q : Unit → Shared → Prop} (hz : s.heap.get? zz = some { cls := .type "zip", dict := none, data := .fields #[rawInt T, .bool false, .bool false, .ref TI, .ref TO], slots := #[] })
    (hQ : ∀ h', h'.get? zz = some { cls := .type "zip", dict := none, data := .fields #[.none, .bool false, .bool false, .ref TI, .ref TO], slots := #[] } → Heap.SameBut zz s.heap h' → Q () { s with heap := h' }) :
    wpAny (model prog w) A (letOwnedTupleGo (.Tuple elts k pos) (.ref zz) (.ref T)) Q E s := wpAny_letOwnedTupleGo_zip hz fun h' a b => hQ h' a b
abbrev zT (vs : Array Value) : Obj := { cls := .type "tuple", data := .seq vs }
abbrev zZ (TI TO : Nat) : Obj := { cls := .type "zip", data := .fields #[.none, .bool false, .bool false, .ref TI, .ref TO] }
end
end L2
set_option Elab.async false
set_option linter.all false
set_option maxRecDepth 100000
set_option maxHeartbeats 4000000
namespace L2
open PySem PySem.Spec PyProof.Rows
section
variable {X : Cx} {pins : List (Addr × Obj)} {σ : St} {H : Hp} {s : Shared} {h' : Heap} {t' : Nat} {fp : List Addr}
theorem Inv.turnedL (I : Inv X pins σ H s) (hf : ∀ b ∈ fp, FpOk X pins H b) (k : ∀ b o, b ∉ fp → s.heap.get? b = some o → h'.get? b = some o) : Inv X pins σ H { s with heap := h', toks := t' } := by
  have ntr : ∀ b u, H b = some u → b ∉ fp := fun b u e hb => by rw [(hf b hb).1] at e; cases e
  refine I.step (g' := s.gens) (d' := s.drawn) (ch := fp) (fun b hb => ?_) (fun b o _ _ hc e _ => k b o hc e) (fun b o _ _ hc e _ => ⟨o.slots, k b o hc e⟩) (fun _ _ _ _ n => n) (fun b o hc e => ⟨o, k b o hc e⟩) (fun _ _ e => e) (fun _ _ _ e => e) (fun b ps e => ⟨#[], by rw [e]; simp⟩) (fun m hm => ?_) (fun b u e => ?_) I.bare
  · obtain ⟨_, f1, _, f3, f4, f5⟩ := hf b hb
    exact ⟨f3, f1, f4, f5⟩
  · obtain ⟨o, es, ep, ho, r⟩ := hm
    exact ⟨o, es, ep, k _ o (fun z => (hf _ z).2.1 rfl) ho, r⟩
  · refine (I.hok b u e).stay (fun c v hc q => k c v ?_ q) (fun _ q => q) fun _ _ q => q
    rcases hc with z | z
    · rw [z]; exact ntr b u e
    · exact ntr c _ z
theorem Inv.turnLaid {T : Addr} {o : HO} (I : Inv X pins σ H s) (hf : ∀ b ∈ fp, FpOk X pins H b) (k : ∀ b o, b ∉ fp → s.heap.get? b = some o → h'.get? b = some o) (hT : s.heap.objs.size ≤ T) (hT2 : T ∉ fp)
    (new : ObjOk X.prog X.w (upd H T o) h' T o) : Inv X pins σ (upd H T o) { s with heap := h', toks := t' } := by
  have hn : H T = none := I.hok.fresh hT
  have ntr : ∀ b u, H b = some u → b ∉ fp := fun b u e hb => by rw [(hf b hb).1] at e; cases e
  have neT : ∀ b (u : Obj), s.heap.get? b = some u → b ≠ T := fun b u e => Nat.ne_of_lt (Nat.lt_of_lt_of_le (Heap.lt_size e) hT)
  refine I.step (g' := s.gens) (d' := s.drawn) (ch := fp) (fun b hb => ?_) (fun b o _ _ hc e _ => k b o hc e) (fun b o _ _ hc e _ => ⟨o.slots, k b o hc e⟩) (fun b u _ e n => by rw [upd_ne (neT b u e)]; exact n) (fun b o hc e => ⟨o, k b o hc e⟩)
    (fun b xs e => by rw [upd_ne (ne_of_none e hn)]; exact e) (fun b ob u e => by rw [upd_ne (ne_of_none e hn)]; exact e) (fun b ps e => ⟨#[], by rw [upd_ne (ne_of_none e hn), e]; simp⟩) (fun m hm => ?_) (fun b u e => ?_) I.bare
  · obtain ⟨_, f1, _, f3, f4, f5⟩ := hf b hb
    exact ⟨f3, f1, f4, f5⟩
  · obtain ⟨o, es, ep, ho, r⟩ := hm
    exact ⟨o, es, ep, k _ o (fun z => (hf _ z).2.1 rfl) ho, r⟩
  · by_cases hb : b = T
    · subst hb; rw [upd_same] at e; cases e; exact new
    · rw [upd_ne hb] at e
      refine (I.hok b u e).stay (fun c v hc q => k c v ?_ q) (fun c q => by rw [upd_ne (ne_of_none q hn)]; exact q) fun c xs q => by rw [upd_ne (ne_of_none q hn)]; exact q
      rcases hc with z | z
      · rw [z]; exact ntr b u e
      · exact ntr c _ z
end
def sg (x : Str) (i : Nat) : V := .str ⟨#[x.cps.getD i 0]⟩
theorem sg_at {x : Str} {i : Nat} (h : i < x.length) : x.cps[i]? = some (x.cps.getD i 0) := by
  have h' : i < x.cps.size := h
  simp [Array.getD_eq_getD_getElem?, h']
def Its (x : Str) : It := ⟨fun i _ => i < x.length, fun i H v H' => H' = H ∧ v = sg x i, fun i _ => x.length ≤ i⟩
section
variable {P : Program} {w : World} {K : PySem.W.Frag}
theorem turn_str {tg : Expr} (x : Str) (it : Addr) : Turn P w K tg (Its x) [it] it (fun i h => StrIt h it x i) where
  mem := by simp
  obj := fun i h st b hb => by
    have e : b = it := by simpa using hb
    subst e
    exact st.obj
  keep := fun i h h' st k => st.at fun o e => k it (by simp) o e
  item := by
    intro X hP hw hK hc i pins s σ H E I hf st hg
    subst hP hw hK
    obtain ⟨f0, f1, f2, f3, f4, f5⟩ := hf it (by simp)
    obtain ⟨ty, t, st, z⟩ := st
    have fin : ∀ h' t' tk, (z : ty = "str_ascii_iterator" ∨ ty = "str_iterator") → h'.IsStrIter it ty x t (i + 1) → Heap.SameBut it s.heap h' → ∃ u, some (Value.str ⟨#[x.cps.getD i 0]⟩ t') = some u ∧
        wpAny (model X.prog X.w) X.A (letOwnedTupleGo tg (.ref it) u) (fun _ s2 => ∃ v H', Inv X pins σ H' s2 ∧ RelV v u ∧ (Its x).yld i H v H' ∧ StrIt s2.heap it x (i + 1) ∧ ∀ b ∈ [it], H' b = none) E { s with heap := h', toks := tk } := by
      intro h' t' tk z st' sb
      have I1 : Inv X pins σ H { s with heap := h', toks := tk } := I.turned (fun b o hb e => (sb.2 b hb).trans e) f0 f1 f3 f4 f5
      obtain ⟨o, e, c, d⟩ := id st'
      exact ⟨_, rfl, go_of (s := { s with heap := h', toks := tk }) e c d (by rcases z with rfl | rfl <;> decide) ⟨sg x i, H, I1, ⟨t', rfl⟩, ⟨rfl, rfl⟩, ⟨ty, t, st', z⟩, fun b hb => (hf b hb).1⟩⟩
    rcases z with rfl | rfl
    · exact wpAny_pyNext_ascii_item st (sg_at hg) fun h' st' sb => fin h' _ _ (.inl rfl) st' sb
    · exact wpAny_pyNext_wide_item st (sg_at hg) fun h' st' sb => fin h' _ _ (.inr rfl) st' sb
  done := by
    intro X hP hw hK hc i pins s σ H E I hf st hg
    subst hP hw hK
    obtain ⟨f0, f1, f2, f3, f4, f5⟩ := hf it (by simp)
    have hx : x.cps[i]? = none := Array.getElem?_eq_none hg
    obtain ⟨ty, t, st, z⟩ := st
    rcases z with rfl | rfl
    · exact wpAny_pyNext_ascii_end (I.ok.hd hc) st hx fun h' eb => ⟨rfl, I.turned (t' := s.toks) (fun b o hb e => eb b o hb e) f0 f1 f3 f4 f5⟩
    · exact wpAny_pyNext_wide_end (I.ok.hd hc) st hx fun h' eb => ⟨rfl, I.turned (t' := s.toks) (fun b o hb e => eb b o hb e) f0 f1 f3 f4 f5⟩
  self := fun A i s Q E st h => by
    obtain ⟨ty, t, st, z⟩ := st
    rcases z with rfl | rfl
    · exact wpAny_pyIter_striter_ascii st h
    · exact wpAny_pyIter_striter_wide st h
def fp3 (n : Nat) : List Addr := [n, n + 1, n + 2, n + 3, n + 4, n + 5]
def fp2 (n : Nat) : List Addr := [n, n + 1, n + 2, n + 3, n + 4]
theorem of_fp2 {n b : Nat} (h : ¬ b ∈ fp2 n) : b < n ∨ n + 5 ≤ b := by
  unfold fp2 at h
  simp only [List.mem_cons, List.not_mem_nil, or_false, not_or] at h
  have h : ¬ b = n ∧ ¬ b = n + 1 ∧ ¬ b = n + 2 ∧ ¬ b = n + 3 ∧ ¬ b = n + 4 := h
  omega
theorem Z3.keep {n : Nat} {x y z : Str} {i : Nat} {f : Value} {h h' : Heap} (Z : Z3 n x y z i f h) (k : ∀ b ∈ fp3 n, ∀ o, h.get? b = some o → h'.get? b = some o) : Z3 n x y z i f h' := by
  obtain ⟨hz, hTI, ⟨a, b, c, hTO⟩, i1, i2, i3⟩ := Z
  exact ⟨k _ (by simp [fp3]) _ hz, k _ (by simp [fp3]) _ hTI, ⟨a, b, c, k _ (by simp [fp3]) _ hTO⟩, i1.at (k _ (by simp [fp3])), i2.at (k _ (by simp [fp3])), i3.at (k _ (by simp [fp3]))⟩
theorem Z2.keep {n : Nat} {x y : Str} {i : Nat} {f : Value} {h h' : Heap} (Z : Z2 n x y i f h) (k : ∀ b ∈ fp2 n, ∀ o, h.get? b = some o → h'.get? b = some o) : Z2 n x y i f h' := by
  obtain ⟨hz, hTI, ⟨a, b, hTO⟩, i1, i2⟩ := Z
  exact ⟨k _ (by simp [fp2]) _ hz, k _ (by simp [fp2]) _ hTI, ⟨a, b, k _ (by simp [fp2]) _ hTO⟩, i1.at (k _ (by simp [fp2])), i2.at (k _ (by simp [fp2]))⟩
theorem Z3.ob {n : Nat} {x y z : Str} {i : Nat} {f : Value} {h : Heap} (Z : Z3 n x y z i f h) : ∀ b ∈ fp3 n, ∃ o, h.get? b = some o ∧ ∀ v, o.data ≠ .cell v := by
  obtain ⟨hz, hTI, ⟨a, b, c, hTO⟩, i1, i2, i3⟩ := Z
  intro b hb
  unfold fp3 at hb
  simp only [List.mem_cons, List.not_mem_nil, or_false] at hb
  rcases hb with rfl | rfl | rfl | rfl | rfl | rfl
  · exact i1.obj
  · exact i2.obj
  · exact i3.obj
  · exact ⟨_, hTI, fun v q => by cases q⟩
  · exact ⟨_, hTO, fun v q => by cases q⟩
  · exact ⟨_, hz, fun v q => by cases q⟩
theorem Z2.ob {n : Nat} {x y : Str} {i : Nat} {f : Value} {h : Heap} (Z : Z2 n x y i f h) : ∀ b ∈ fp2 n, ∃ o, h.get? b = some o ∧ ∀ v, o.data ≠ .cell v := by
  obtain ⟨hz, hTI, ⟨a, b, hTO⟩, i1, i2⟩ := Z
  intro b hb
  unfold fp2 at hb
  simp only [List.mem_cons, List.not_mem_nil, or_false] at hb
  rcases hb with rfl | rfl | rfl | rfl | rfl
  · exact i1.obj
  · exact i2.obj
  · exact ⟨_, hTI, fun v q => by cases q⟩
  · exact ⟨_, hTO, fun v q => by cases q⟩
  · exact ⟨_, hz, fun v q => by cases q⟩
end
section
variable {X : Cx}
def iStr (tl : TE) : TI := fun σ H R => tl σ H fun x H1 => ∃ z, x = .str z ∧ R (Its z) H1
theorem pi_str {tg l : Expr} {tl : TE} (hl : PE X l tl) : PI X tg l (iStr tl) := by
  intro pins s σ H R I h
  refine thn (hl pins s σ H _ I h) fun v s1 ⟨x, H1, I1, r1, q1⟩ => ?_
  obtain ⟨z, rfl, q⟩ := q1
  obtain ⟨t, rfl⟩ := r1
  refine iterStr fun o st => ?_
  refine ⟨s1.heap.objs.size, [s1.heap.objs.size], _, _, H1, rfl, I1.kept (t' := s1.toks) fun b o e => Heap.get?_push_of_some _ e, turn_str z _, st, fun b hb => ?_, q⟩
  have e : b = s1.heap.objs.size := by simpa using hb
  subst e
  exact I1.fpOk (Nat.le_refl _) (I1.hok.fresh (Nat.le_refl _))
end
end L2
set_option Elab.async false
set_option linter.all false
set_option maxRecDepth 100000
set_option maxHeartbeats 4000000
namespace L2
open PySem PySem.Spec PyProof.Rows
inductive Kd where
  | non | bl | int | str | lst | tup
  deriving DecidableEq
def kdIs (K : PySem.W.Frag) (H : Hp) : V → Kd → Prop
  | .non, .non => True
  | .bl _, .bl => True
  | .int _, .int => True
  | .str _, .str => True
  | .ref a, .lst => ∃ xs, SqL K H a xs
  | .ref a, .tup => ∃ xs, SqT K H a xs
  | _, _ => False
def isT : Kd → String → Option Bool
  | .non, "str" => some false | .non, "int" => some false | .non, "bool" => some false | .non, "list" => some false | .non, "tuple" => some false
  | .bl, "str" => some false | .bl, "int" => some true | .bl, "bool" => some true | .bl, "list" => some false | .bl, "tuple" => some false
  | .int, "str" => some false | .int, "int" => some true | .int, "bool" => some false | .int, "list" => some false | .int, "tuple" => some false
  | .str, "str" => some true | .str, "int" => some false | .str, "bool" => some false | .str, "list" => some false | .str, "tuple" => some false
  | .lst, "str" => some false | .lst, "int" => some false | .lst, "bool" => some false | .lst, "list" => some true | .lst, "tuple" => some false
  | .tup, "str" => some false | .tup, "int" => some false | .tup, "bool" => some false | .tup, "list" => some false | .tup, "tuple" => some true
  | _, _ => none
section
variable {X : Cx}
theorem call_isi : CallR X (.builtin "isinstance") (fun xs H Q => ∃ x k T b, xs = [x, .ty T] ∧ kdIs X.K H x k ∧ isT k T = some b ∧ Q (.bl b) H) := by
  intro pins s σ H xs us Q I r h
  obtain ⟨x, k, T, b, rfl, hk, ht, q⟩ := h
  obtain ⟨u, v, rfl, ru, rv⟩ := r.two
  cases rv
  have J : ∀ t, EP X pins σ Q (.bool b) { s with toks := t } := fun t => ⟨.bl b, H, I.tok t, rfl, q⟩
  have J0 : EP X pins σ Q (.bool b) s := ⟨.bl b, H, I, rfl, q⟩
  have lst : ∀ a ys, SqL X.K H a ys → ∃ o, s.heap.get? a = some o ∧ o.cls = .type "list" := fun a ys hq => by
    obtain ⟨its, _, ⟨o, n, e, c, _⟩, _⟩ := I.list hq
    exact ⟨o, e, c⟩
  have tup : ∀ a ys, SqT X.K H a ys → ∃ o, s.heap.get? a = some o ∧ o.cls = .type "tuple" := fun a ys hq => by
    obtain ⟨its, _, ⟨o, e, c, _⟩, _⟩ := I.tuple hq
    exact ⟨o, e, c⟩
  unfold isT at ht
  split at ht <;> cases ht <;> cases x <;> first | exact hk.elim | skip
  · cases ru; exact IsiPair.NoneType_str (J _)
  · cases ru; exact IsiPair.NoneType_int (J _)
  · cases ru; exact IsiPair.NoneType_bool (J _)
  · cases ru; exact IsiPair.NoneType_list (J _)
  · cases ru; exact IsiPair.NoneType_tuple (J _)
  · cases ru; exact IsiPair.bool_str (J _)
  · cases ru; exact IsiPair.bool_int J0
  · cases ru; exact IsiPair.bool_bool J0
  · cases ru; exact IsiPair.bool_list (J _)
  · cases ru; exact IsiPair.bool_tuple (J _)
  · obtain ⟨t, rfl⟩ := ru; exact IsiPair.int_str (J _)
  · obtain ⟨t, rfl⟩ := ru; exact IsiPair.int_int J0
  · obtain ⟨t, rfl⟩ := ru; exact IsiPair.int_bool (J _)
  · obtain ⟨t, rfl⟩ := ru; exact IsiPair.int_list (J _)
  · obtain ⟨t, rfl⟩ := ru; exact IsiPair.int_tuple (J _)
  · obtain ⟨t, rfl⟩ := ru; exact IsiPair.str_str J0
  · obtain ⟨t, rfl⟩ := ru; exact IsiPair.str_int (J _)
  · obtain ⟨t, rfl⟩ := ru; exact IsiPair.str_bool (J _)
  · obtain ⟨t, rfl⟩ := ru; exact IsiPair.str_list (J _)
  · obtain ⟨t, rfl⟩ := ru; exact IsiPair.str_tuple (J _)
  · cases ru; obtain ⟨ys, hq⟩ := hk; obtain ⟨o, e, c⟩ := lst _ _ hq; exact IsiPair.list_str e c (J _)
  · cases ru; obtain ⟨ys, hq⟩ := hk; obtain ⟨o, e, c⟩ := lst _ _ hq; exact IsiPair.list_int e c (J _)
  · cases ru; obtain ⟨ys, hq⟩ := hk; obtain ⟨o, e, c⟩ := lst _ _ hq; exact IsiPair.list_bool e c (J _)
  · cases ru; obtain ⟨ys, hq⟩ := hk; obtain ⟨o, e, c⟩ := lst _ _ hq; exact IsiPair.list_list e c J0
  · cases ru; obtain ⟨ys, hq⟩ := hk; obtain ⟨o, e, c⟩ := lst _ _ hq; exact IsiPair.list_tuple e c (J _)
  · cases ru; obtain ⟨ys, hq⟩ := hk; obtain ⟨o, e, c⟩ := tup _ _ hq; exact IsiPair.tuple_str e c (J _)
  · cases ru; obtain ⟨ys, hq⟩ := hk; obtain ⟨o, e, c⟩ := tup _ _ hq; exact IsiPair.tuple_int e c (J _)
  · cases ru; obtain ⟨ys, hq⟩ := hk; obtain ⟨o, e, c⟩ := tup _ _ hq; exact IsiPair.tuple_bool e c (J _)
  · cases ru; obtain ⟨ys, hq⟩ := hk; obtain ⟨o, e, c⟩ := tup _ _ hq; exact IsiPair.tuple_list e c (J _)
  · cases ru; obtain ⟨ys, hq⟩ := hk; obtain ⟨o, e, c⟩ := tup _ _ hq; exact IsiPair.tuple_tuple e c J0
theorem vals_bl : ∀ {bs : List Bool} {us : List Value}, Vals (bs.map V.bl) us → us = bs.map Value.bool
  | [], _, h => by cases h; rfl
  | b :: r, us, h => by
    cases h with
    | cons r1 r2 => cases r1; rw [vals_bl r2]; rfl
theorem all_range : ∀ (bs : List Bool), ((List.range bs.length).all fun i => bs.getD i false) = bs.all id := fun bs => by
  have e : (List.range bs.length).map (fun i => bs.getD i false) = bs := by
    apply List.ext_getElem
    · simp
    · intro i h1 h2
      simp at h1
      simp [h1]
  conv => rhs; rw [← e]
  rw [List.all_map]; rfl
theorem truth_bl {prog : Program} {w : World} {A : Around} (bs : List Bool) : TruthOf prog w A (fun i v => ((bs.map Value.bool).toArray)[i]? = some v) (fun i => bs.getD i false) := by
  intro i v s Q E hP hQ
  have hP : (bs.map Value.bool)[i]? = some v := by simpa using hP
  rw [List.getElem?_map] at hP
  cases e : bs[i]? with
  | none => rw [e] at hP; cases hP
  | some b =>
    rw [e] at hP
    cases hP
    refine wpAny_truthy_bool ?_
    have : bs.getD i false = b := by rw [List.getD_eq_getElem?_getD, e]; rfl
    have hQ : Q (bs.getD i false) s := hQ
    rw [this] at hQ
    exact hQ
theorem call_all (hc : X.calm = true) : CallR X (.builtin "all") (fun xs H Q => ∃ (a : Addr) (bs : List Bool), xs = [.ref a] ∧ SqL X.K H a (bs.map V.bl) ∧ Q (.bl (bs.all id)) H) := by
  intro pins s σ H xs us Q I r h
  obtain ⟨a, bs, rfl, hq, q⟩ := h
  obtain ⟨u, rfl, ru⟩ := r.one
  cases ru
  obtain ⟨its, rv, p, hz⟩ := I.list hq
  have ei := vals_bl rv
  subst ei
  refine call_all_walk (wpAny_pyIter_list p.isList ?_)
  have ne : a ≠ s.heap.objs.size := by obtain ⟨o, n, e, _⟩ := p; exact Nat.ne_of_lt (Heap.lt_size e)
  have hh : X.A.in1.handled = none := I.ok.hd hc
  refine ⟨s.heap.objs.size, _, _, _, _, _, _, rfl, Walks.list hh _ a ne (bs.map Value.bool).toArray, ⟨⟨_, Heap.get?_push_size _ rfl, rfl, rfl⟩, p.isList.push _⟩, truth_bl bs, fun h' tk kk => ?_⟩
  have e2 : (List.range (bs.map Value.bool).toArray.size).all (fun i => bs.getD i false) = bs.all id := by
    rw [List.size_toArray, List.length_map]; exact all_range bs
  rw [e2]
  exact ⟨.bl (bs.all id), H, I.kept fun b o e => kk b o (fun z => by
    have z : b = s.heap.objs.size := by simpa using z
    exact absurd (Heap.lt_size e) (by rw [z]; exact Nat.lt_irrefl _)) (Heap.get?_push_of_some _ e), rfl, q⟩
theorem vals_strs : ∀ {ys : List Str} {us : List Value}, Vals (ys.map V.str) us → StrsAre us ys
  | [], _, h => by cases h; exact .nil
  | y :: r, us, h => by
    cases h with
    | cons r1 r2 => obtain ⟨t, rfl⟩ := r1; exact .cons y t (vals_strs r2)
def rJoin (K : PySem.W.Frag) : V → List V → Hp → VK → Prop := fun x vs H Q => ∃ sep a ys, x = .str sep ∧ vs = [.ref a] ∧ SqL K H a (ys.map V.str) ∧ sep.length ≤ 16 ∧ (ys.map (·.length)).sum + ys.length ≤ 1048576 ∧ Q (.str (Txt.join sep ys)) H
theorem mt_join : MtR X "str.join" (rJoin X.K) := by
  intro pins s σ H x vs v us Q I rx rv h
  obtain ⟨sep, a, ys, rfl, rfl, hq, h1, h2, q⟩ := h
  obtain ⟨t, rfl⟩ := rx
  obtain ⟨u, rfl, ru⟩ := rv.one
  cases ru
  obtain ⟨its, rv, p, hz⟩ := I.list hq
  exact join_listW p.isList (by simpa using vals_strs rv) h1 h2 fun t' k => ⟨.str _, H, I.tok k, ⟨t', rfl⟩, q⟩
def strRep (z : Str) (n : Int) : Str := if n < 1 then Str.empty else if (n == 1 || z.length == 0) = true then z else ⟨(List.replicate n.toNat z.cps).foldl (· ++ ·) #[]⟩
theorem foldl_size (a : Array Nat) : ∀ (k : Nat) (b : Array Nat), ((List.replicate k a).foldl (· ++ ·) b).size = b.size + k * a.size
  | 0, b => by simp
  | k + 1, b => by
    rw [List.replicate_succ, List.foldl_cons, foldl_size a k]
    rw [Array.size_append, Nat.succ_mul]
    omega
theorem op_rep_str : OpR X (binaryOp .Mult) (fun x y H Q => ∃ z n, x = .str z ∧ y = .int n ∧ 0 ≤ n ∧ n ≤ 1000 ∧ z.length ≤ 1000 ∧ Q (.str (strRep z n)) H) := by
  intro pins s σ H x y v u Q I rx ry h
  obtain ⟨z, n, rfl, rfl, h1, h2, h3, q⟩ := h
  obtain ⟨t, rfl⟩ := rx
  obtain ⟨t', rfl⟩ := ry
  have hm : z.length * n.toNat ≤ 1000000 := by
    have : z.length * n.toNat ≤ 1000 * 1000 := Nat.mul_le_mul h3 (by omega)
    omega
  refine PySem.P.mul_str ?_ (fun hn _ => ?_) (fun hn _ => ?_) ?_
  · have e1 : ¬ n < -(2 ^ 63 : Int) := by omega
    have e2 : ¬ n ≥ 2 ^ 63 := by omega
    rw [decide_eq_false e1, decide_eq_false e2]; rfl
  · have e : (z.length : Int) * n ≤ 2 ^ 63 - 1 := by
      have e1 : (z.length : Int) * n = ((z.length * n.toNat : Nat) : Int) := by
        rw [Int.natCast_mul]
        congr 1
        omega
      omega
    have := Int.le_ediv_of_mul_le (show 0 < n by omega) e
    omega
  · have e : ¬ z.length * n.toNat > sizeLine := by rw [sizeLine_eq]; omega
    exact decide_eq_false e
  · unfold strRep at q
    split
    · rename_i c
      rw [if_pos c] at q
      exact ⟨by decide, ⟨.str _, H, I.tok _, ⟨_, rfl⟩, q⟩⟩
    · rename_i c
      rw [if_neg c] at q
      split
      · rename_i c2
        rw [if_pos c2] at q
        exact ⟨.str _, H, I, ⟨_, rfl⟩, q⟩
      · rename_i c2
        rw [if_neg c2] at q
        refine ⟨?_, ⟨.str _, H, I.tok _, ⟨_, rfl⟩, q⟩⟩
        show ((List.replicate n.toNat z.cps).foldl (· ++ ·) #[]).size ≤ sizeLine
        rw [foldl_size, sizeLine_eq]
        have e : n.toNat * z.cps.size = z.length * n.toNat := Nat.mul_comm _ _
        have e0 : (#[] : Array Nat).size = 0 := rfl
        omega
end
end L2
set_option Elab.async false
set_option linter.all false
set_option maxRecDepth 100000
set_option maxHeartbeats 4000000
namespace L2
open PySem PySem.Spec PyProof.Rows
structure Df (K : PySem.W.Frag) (mg : Str → Option Value) (x : Str) (st : Stmt) (ps : List Str) (f : Addr) (fd : FuncData) : Prop where
  F : Fun K x x st f fd
  mg : mg x = some (.ref f)
  b : Binds K fd ps []
theorem passN {P : Program} {w : World} {X : Cx} : Passes (CXE P w) X E0 := fun _ _ _ _ _ _ _ h => by
  obtain ⟨_, _, _, _, _, _, _, _, _, _, _, _, _, _, _, q⟩ := h
  exact q.elim
section
variable {P : Program} {w : World} {K : PySem.W.Frag} {mg : Str → Option Value} {base : Heap}
theorem Fun.okN {x qual : Str} {st : Stmt} {f : Addr} {fd : FuncData} {N ps : List Str} {k : Nat} {sp : Sp} (F : Fun K x qual st f fd) (S : FnScope N ps (defScope st)) (len : ∀ vs H Q E, sp vs H Q E → vs.length = ps.length)
    (hbody : ∀ (cdv : Value) (A : Around) (outer : List Env) (s : Shared) (H : Hp) (vs : List V) (Q : VK) (E : XK), Room k (A.deeper (envOfC qual (defScope st) s.heap.objs.size f cdv)) → sp vs H Q E →
      ∃ t, PSs (cxOf (CXE P w) P w K mg base N qual (defScope st) f cdv A outer s H E).nox (defBody st) t ∧ t { nx := fun _ H' => Q .non H', rt := Q } (start N vs) H) : FnOk P w K mg base (CXE P w) (k + 1) f fd ps sp := by
  obtain ⟨oc, od, kV, doc, pm, an, cdv, ct, osl, rfl, lk, hcd⟩ := F.ex
  refine fn_of lk hcd S len fun A outer s H vs Q E hr hsp => ?_
  obtain ⟨t, h, q⟩ := hbody cdv A outer s H vs Q E hr hsp
  exact ⟨t, h.nox, q⟩
theorem Fun.okE {x qual : Str} {st : Stmt} {f : Addr} {fd : FuncData} {N ps : List Str} {k : Nat} {sp : Sp} (F : Fun K x qual st f fd) (S : FnScope N ps (defScope st)) (len : ∀ vs H Q E, sp vs H Q E → vs.length = ps.length)
    (hbody : ∀ (cdv : Value) (A : Around) (outer : List Env) (s : Shared) (H : Hp) (vs : List V) (Q : VK) (E : XK), Room k (A.deeper (envOfC qual (defScope st) s.heap.objs.size f cdv)) → sp vs H Q E →
      ∃ t, PSs (cxOf (CXE P w) P w K mg base N qual (defScope st) f cdv A outer s H E) (defBody st) t ∧ t { nx := fun _ H' => Q .non H', rt := Q } (start N vs) H) : FnOk P w K mg base (CXE P w) (k + 1) f fd ps sp := by
  obtain ⟨oc, od, kV, doc, pm, an, cdv, ct, osl, rfl, lk, hcd⟩ := F.ex
  exact fn_of lk hcd S len fun A outer s H vs Q E hr hsp => hbody cdv A outer s H vs Q E hr hsp
theorem df_mk {h : Heap} (X : K.In h) (G : h.Ns mainGlobals mg) {x : Str} {st : Stmt} {ps : List Str} {f : Addr} {oc : Value} {od an : Option Addr} {osl : Array (Option Value)} {kV doc pm cdv ct : Value} (a : PySem.W.nsIn K mainGlobals x = some (some (.ref f)))
    (l : K.lookup f = some ⟨oc, od, .func (PySem.W.fnOf x x (defArgs st) (defBody st) (defScope st) .none kV doc pm an cdv ct), osl⟩) (c : PySem.W.codeIn K cdv x = true) (k : PySem.W.keepIn K (.ref f) = true)
    (hb : ∀ (kV doc pm : Value) (an : Option Addr) (cdv ct : Value) (us : List Value), us.length = ps.length → bindArgs (PySem.W.fnOf x x (defArgs st) (defBody st) (defScope st) .none kV doc pm an cdv ct) ⟨us, []⟩ = pure (ps.zip us)) :
    Df K mg x st ps f (PySem.W.fnOf x x (defArgs st) (defBody st) (defScope st) .none kV doc pm an cdv ct) :=
  have F := fun_mk (st := st) l c k
  ⟨F, PySem.W.mg_of X G a, F.binds hb⟩
end
section
variable {X : Cx} {k : Nat} {f : Addr} {fd : FuncData} {ps : List Str} {sp : Sp} {x : Str} {st : Stmt} {p pos : Pos} {e : Expr} {es : List Expr} {t : TA} {E : XK}
theorem pe_fn (D : Df X.K X.mg x st ps f fd) (G : FnOk X.prog X.w X.K X.mg X.base (CXE X.prog X.w) k f fd ps sp) (hr : Room k X.A) (hx : Passes (CXE X.prog X.w) X E) (ha : PA X (e :: es) t) (hg : Gl X x := by rfl)
    (hdb : (x == ("__debug__" : Str)) = false := by decide) (he : starEach (e :: es) X.env = (false, eval e X.env) :: starEach es X.env := by rfl) (hpl : (backTo pos (starEach es X.env)).any (·.1) = false := by rfl) :
    PE X (.Call (.Name x p) (e :: es) [] pos) (tCall sp [] E t) := pe_call G hr hg D.mg D.F.kp D.b .nil hx ha hdb he hpl
end
def cd (b : Bool) : Nat := if b then 121 else 110
def sn (b : Bool) : V := .str ⟨#[cd b]⟩
inductive Dt where
  | non | bl (b : Bool) | int (i : Int) | str (x : Str) | lst (ds : List Dt) | tup (ds : List Dt)
inductive Den (K : PySem.W.Frag) (H : Hp) : V → Dt → Prop
  | non : Den K H .non .non
  | bl (b : Bool) : Den K H (.bl b) (.bl b)
  | int (i : Int) : Den K H (.int i) (.int i)
  | str (x : Str) : Den K H (.str x) (.str x)
  | lst {a : Addr} {xs : List V} {ds : List Dt} : SqL K H a xs → xs.length = ds.length → ds.length ≤ 5000 → (∀ (i : Nat) x d, xs[i]? = some x → ds[i]? = some d → Den K H x d) → Den K H (.ref a) (.lst ds)
  | tup {a : Addr} {xs : List V} {ds : List Dt} : SqT K H a xs → xs.length = ds.length → ds.length ≤ 5000 → (∀ (i : Nat) x d, xs[i]? = some x → ds[i]? = some d → Den K H x d) → Den K H (.ref a) (.tup ds)
theorem Same.seqT {K : PySem.W.Frag} {H H' : Hp} {a : Addr} {xs : List V} (e : Same H H') (h : SqT K H a xs) : SqT K H' a xs := by
  rcases h with (h | ⟨o, h⟩) | h
  · exact .inl (.inl (e _ _ h))
  · exact .inl (.inr ⟨o, e _ _ h⟩)
  · exact .inr h
theorem Den.mono {K : PySem.W.Frag} {H H' : Hp} (e : Same H H') : ∀ {v : V} {d : Dt}, Den K H v d → Den K H' v d := by
  intro v d h
  induction h with
  | non => exact .non
  | bl b => exact .bl b
  | int i => exact .int i
  | str x => exact .str x
  | lst h1 h2 h3 _ ih => exact .lst (e.seq h1) h2 h3 ih
  | tup h1 h2 h3 _ ih => exact .tup (e.seqT h1) h2 h3 ih
def Dt.deep : Dt → Nat
  | .lst ds => 1 + deeps ds
  | .tup ds => 1 + deeps ds
  | _ => 0
where deeps : List Dt → Nat
  | [] => 0
  | d :: r => max d.deep (deeps r)
theorem deep_mem : ∀ {ds : List Dt} {i : Nat} {d : Dt}, ds[i]? = some d → d.deep ≤ Dt.deep.deeps ds
  | _ :: _, 0, _, h => by simp at h; subst h; exact Nat.le_max_left _ _
  | _ :: r, i + 1, d, h => Nat.le_trans (deep_mem (ds := r) (i := i) (by simpa using h)) (Nat.le_max_right _ _)
def Dt.eqb : Dt → Dt → Bool
  | .non, .non => true
  | .bl a, .bl b => a == b
  | .int a, .int b => a == b
  | .str a, .str b => decide (a = b)
  | .lst a, .lst b => eqbs a b
  | .tup a, .tup b => eqbs a b
  | _, _ => false
where eqbs : List Dt → List Dt → Bool
  | [], [] => true
  | a :: r, b :: s => a.eqb b && eqbs r s
  | _, _ => false
theorem Same.new {H : Hp} {p : Addr} {o : HO} (h : H p = none) : Same H (upd H p o) := fun b u e => by rw [upd_ne (ne_of_none e h)]; exact e
end L2
namespace L2
open PySem PySem.Spec PyProof.Rows
section
variable {X : Cx} {st : Stmt} {t : TS}
def tCut (M : St → Hp → Prop) (t : TS) : TS := fun D σ H => t { D with nx := M } σ H ∧ ∀ σ' H', M σ' H' → D.nx σ' H'
theorem ps_cut (M : St → Hp → Prop) (h : PS X st t) : PS X st (tCut M t) := by
  intro pins s σ H D I q
  obtain ⟨q1, q2⟩ := q
  refine thn (h pins s σ H _ I q1) fun f s1 r => ?_
  cases f with
  | next => obtain ⟨σ', H', J, m⟩ := r; exact ⟨σ', H', J, q2 σ' H' m⟩
  | ret v => exact r
  | brk => exact r
  | cont => exact r
end
end L2
namespace L2
open PySem PySem.Spec PyProof.Rows
section
variable {p : Addr} {g : TG} {tt : TT} {te : TE} {σ0 : St} {H0 : Hp} {Q : Hp → Prop} {x y z : Str}
theorem blk_str (Pv : Nat → St → Hp → Prop) (h0 : Pv 0 σ0 H0) (hs : ∀ i σ H, i < x.length → Pv i σ H → BlkTurn p g tt te (Pv (i + 1)) (sg x i) σ H) (hd : ∀ σ H, Pv x.length σ H → Q H) : tBlk (Its x) p g tt te σ0 H0 Q := by
  refine ⟨fun i m σ H => m = x.length - i ∧ i ≤ x.length ∧ Pv i σ H, ⟨x.length, by simp, Nat.zero_le _, h0⟩, ?_⟩
  rintro i m σ H ⟨rfl, hi, q⟩
  by_cases hlt : i < x.length
  · refine .inr ⟨hlt, Pv (i + 1), fun σ' H' r => ⟨x.length - (i + 1), by omega, rfl, hlt, r⟩, fun v H' r => ?_⟩
    obtain ⟨e, r⟩ := r
    subst e r
    exact hs i σ _ hlt q
  · have e : i = x.length := by omega
    subst e
    exact .inl ⟨Nat.le_refl _, hd σ H q⟩
end
theorem turn_all {p : Addr} {i : Nat} {te : TE} {N : St → Hp → Prop} {x : V} {σ : St} {H : Hp} (h : te (σ.set i (some x)) H fun v H4 => ∃ ys, H4 p = some (.lst ys) ∧ ys.length < sizeLine ∧ N (σ.set i (some x)) (upd H4 p (.lst (ys ++ [v])))) :
    BlkTurn p (gName i) tAll te N x σ H := by
  exact iteT (B := N (σ.set i (some x)) H) h
theorem FnOk.no {P : Program} {w : World} {K : PySem.W.Frag} {mg : Str → Option Value} {base : Heap} {CX : CXT} {k : Nat} {f : Addr} {fd : FuncData} {ps : List Str} : FnOk P w K mg base CX k f fd ps (fun _ _ _ _ => False) :=
  ⟨fun _ _ _ _ h => h.elim, fun _ _ _ _ _ _ _ _ _ _ _ _ _ h => h.elim⟩
theorem Den.kd {K : PySem.W.Frag} {H : Hp} {v : V} {d : Dt} (h : Den K H v d) : kdIs K H v (match d with | .non => .non | .bl _ => .bl | .int _ => .int | .str _ => .str | .lst _ => .lst | .tup _ => .tup) := by
  cases h with
  | non => trivial
  | bl => trivial
  | int => trivial
  | str => trivial
  | lst h1 _ _ _ => exact ⟨_, h1⟩
  | tup h1 _ _ _ => exact ⟨_, h1⟩
theorem eqbs_all : ∀ (a b : List Dt), a.length = b.length → Dt.eqb.eqbs a b = ((a.zip b).map fun q => q.1.eqb q.2).all id
  | [], [], _ => rfl
  | x :: r, y :: s, h => by
    show (x.eqb y && Dt.eqb.eqbs r s) = _
    rw [eqbs_all r s (by simpa using h)]
    rfl
theorem eqbs_len : ∀ (a b : List Dt), a.length ≠ b.length → Dt.eqb.eqbs a b = false
  | [], [], h => absurd rfl h
  | [], _ :: _, _ => rfl
  | _ :: _, [], _ => rfl
  | x :: r, y :: s, h => by
    show (x.eqb y && Dt.eqb.eqbs r s) = false
    rw [eqbs_len r s (by simpa using h), Bool.and_false]
theorem Den.isN {K : PySem.W.Frag} {H : Hp} {v : V} {d : Dt} (h : Den K H v d) : decide (v = V.non) = d.eqb .non := by cases h <;> rfl
def Dt.kd : Dt → Kd
  | .non => .non | .bl _ => .bl | .int _ => .int | .str _ => .str | .lst _ => .lst | .tup _ => .tup
theorem Den.kdIs {K : PySem.W.Frag} {H : Hp} {v : V} {d : Dt} (h : Den K H v d) : L2.kdIs K H v d.kd := by cases d <;> exact h.kd
end L2
set_option Elab.async false
set_option linter.all false
set_option maxRecDepth 100000
set_option maxHeartbeats 4000000
namespace K44
open PySem L2
def top (i : Nat) : Stmt := PySem.Challenge.pw_wapentake_k44_texts_of_no_deed.main.body.getD i (.Pass ⟨0, 0, 0, 0⟩)
abbrev s_cell : Stmt := top 16
abbrev s_draws : Stmt := top 17
structure Bt (mg : Str → Option Value) : Prop where
  len : mg "len" = none
  range : mg "range" = none
  all : mg "all" = none
  zip : mg "zip" = none
  abs : mg "abs" = none
  int : mg "int" = none
  str : mg "str" = none
  bool : mg "bool" = none
  list : mg "list" = none
  tuple : mg "tuple" = none
  isi : mg "isinstance" = none
section
variable {P : Program} {w : World} {K : PySem.W.Frag} {mg : Str → Option Value} {base : Heap}
def cellM (ns : List Int) (k : Nat) : Int := ns.getD k 0
def spCell (K : PySem.W.Frag) : Sp := fun vs H Q _ => ∃ (a : Addr) (ns : List Int) (k : Nat), vs = [.ref a, .int k] ∧ SqL K H a (ns.map V.int) ∧ Q (.int (cellM ns k)) H
theorem sc_cell : FnScope ["_law_script", "_law_k"] ["_law_script", "_law_k"] (defScope s_cell) := ⟨rfl, rfl, rfl, by decide +kernel, rfl, by decide +kernel, by decide +kernel⟩
theorem ok_cell {f : Addr} {fd : FuncData} (D : Df K mg "_law_cell" s_cell ["_law_script", "_law_k"] f fd) (B : Bt mg) : FnOk P w K mg base (CXE P w) 1 f fd ["_law_script", "_law_k"] (spCell K) := by
  refine D.F.okN sc_cell (fun vs H Q E h => ?_) (fun cdv A outer s H vs Q E hr h => ?_)
  · obtain ⟨a, ns, k, rfl, _⟩ := h
    rfl
  · obtain ⟨a, ns, k, rfl, hS, q⟩ := h
    refine ⟨_, pss_cons (ps_if (pt_cmpR op_lt (pv 1) (pe_callB call_len_seq (by rfl) B.len PySem.boot_len (pa_cons (pv 0) pa_nil)) (nomark _))
        (pss_one (ps_ret (pe_ix ix_list (pv 0) (pv 1) (fun _ _ => rfl)))) pss_nil)
      (pss_one (ps_ret pe_int)), ?_⟩
    refine ⟨_, rfl, _, rfl, a, _, rfl, .inl hS, _, _, rfl, rfl, _, rfl, ?_⟩
    refine ite2 (fun c => ?_) (fun c => ?_)
    · have c : (k : Int) < ((ns.map V.int).length : Int) := of_decide_eq_true c
      rw [List.length_map] at c
      have e : (ns.map V.int)[k]? = some (.int (cellM ns k)) := by
        rw [List.getElem?_map, List.getElem?_eq_getElem (by omega)]
        simp [cellM, List.getD_eq_getElem?_getD, List.getElem?_eq_getElem (show k < ns.length by omega)]
      exact ⟨_, rfl, _, rfl, a, _, _, _, rfl, rfl, hS, atI_nat e, q⟩
    · have c : ¬ (k : Int) < ((ns.map V.int).length : Int) := fun z => c (decide_eq_true z)
      rw [List.length_map] at c
      have e : cellM ns k = 0 := by
        simp [cellM, List.getD_eq_getElem?_getD, List.getElem?_eq_none (show ns.length ≤ k by omega)]
      rw [e] at q
      exact q
end
end K44
set_option Elab.async false
set_option linter.all false
set_option maxRecDepth 100000
set_option maxHeartbeats 4000000
namespace K44
open PySem L2
def oneM (c : Int) : Int := (c * 48271 + 11) % 2147483647
def twoM (c : Int) : Int := (oneM c * oneM c + 40692 * oneM c + c) % 2147483399
def sixM (c : Int) : Int := (twoM c * 16807 + oneM c) % 1000000007
def absM (c : Int) : Int := if c < 0 then -c else c
def mixM (c : Int) : Int := if absM c < 10 ^ 18 then twoM c + 2147483399 * (sixM c + 1000000007 * oneM c) else absM c - 10 ^ 18
def drawsGo : Int → List Int → List Int
  | _, [] => []
  | c, p :: r => c % p :: drawsGo (c / p) r
def restM (c : Int) : List Int → Int
  | [] => c
  | p :: r => restM (c / p) r
def drawsM (c : Int) (ps : List Int) : List Int := drawsGo (mixM c) ps
theorem go_len : ∀ (ps : List Int) (c : Int), (drawsGo c ps).length = ps.length
  | [], _ => rfl
  | p :: r, c => by show (drawsGo (c / p) r).length + 1 = r.length + 1; rw [go_len r]
theorem rest_take : ∀ (ps : List Int) (c : Int) (i : Nat) (p : Int), ps[i]? = some p → restM c (ps.take (i + 1)) = restM c (ps.take i) / p
  | q :: r, c, 0, p, h => by simp at h; subst h; rfl
  | q :: r, c, i + 1, p, h => by
    show restM (c / q) (r.take (i + 1)) = restM (c / q) (r.take i) / p
    exact rest_take r (c / q) i p (by simpa using h)
theorem go_take : ∀ (ps : List Int) (c : Int) (i : Nat) (p : Int), ps[i]? = some p → (drawsGo c ps).take (i + 1) = (drawsGo c ps).take i ++ [restM c (ps.take i) % p]
  | q :: r, c, 0, p, h => by simp at h; subst h; simp [drawsGo, restM]
  | q :: r, c, i + 1, p, h => by
    show (c % q) :: (drawsGo (c / q) r).take (i + 1) = (c % q) :: ((drawsGo (c / q) r).take i ++ [restM (c / q) (r.take i) % p])
    rw [go_take r (c / q) i p (by simpa using h)]
theorem go_at : ∀ (ps : List Int) (c : Int) (i : Nat) (p : Int), (∀ x ∈ ps, 0 < x) → ps[i]? = some p → ∃ d, (drawsGo c ps)[i]? = some d ∧ 0 ≤ d ∧ d < p
  | q :: r, c, 0, p, hp, h => by
    simp at h; subst h
    have := hp q List.mem_cons_self
    exact ⟨c % q, rfl, Int.emod_nonneg _ (by omega), Int.emod_lt_of_pos _ this⟩
  | q :: r, c, i + 1, p, hp, h => by
    obtain ⟨d, e, h1, h2⟩ := go_at r (c / q) i p (fun x hx => hp x (List.mem_cons_of_mem _ hx)) (by simpa using h)
    exact ⟨d, by simpa [drawsGo] using e, h1, h2⟩
theorem one_b (c : Int) : 0 ≤ oneM c ∧ oneM c < 2147483647 := ⟨Int.emod_nonneg _ (by decide), Int.emod_lt_of_pos _ (by decide)⟩
theorem two_b (c : Int) : 0 ≤ twoM c ∧ twoM c < 2147483399 := ⟨Int.emod_nonneg _ (by decide), Int.emod_lt_of_pos _ (by decide)⟩
theorem six_b (c : Int) : 0 ≤ sixM c ∧ sixM c < 1000000007 := ⟨Int.emod_nonneg _ (by decide), Int.emod_lt_of_pos _ (by decide)⟩
section
variable {P : Program} {w : World} {K : PySem.W.Frag} {mg : Str → Option Value} {base : Heap}
def spDraws (K : PySem.W.Frag) : Sp := fun vs H Q _ => ∃ (c : Int) (p : Addr) (ps : List Int), vs = [.int c, .ref p] ∧ SqL K H p (ps.map V.int) ∧ (∀ x ∈ ps, 0 < x ∧ x < 1073741824) ∧ ps.length ≤ 100 ∧
  ∀ q H', Same H H' → H q = none → H' q = some (.lst ((drawsM c ps).map V.int)) → Q (.ref q) H'
theorem sc_draws : FnScope ["_law_cell_here", "_law_parts", "_law_one", "_law_two", "_law_six", "_law_found", "_law_part"] ["_law_cell_here", "_law_parts"] (defScope s_draws) := ⟨rfl, rfl, rfl, by decide +kernel, rfl, by decide +kernel, by decide +kernel⟩
theorem ok_draws {f : Addr} {fd : FuncData} (D : Df K mg "_law_draws" s_draws ["_law_cell_here", "_law_parts"] f fd) (B : Bt mg) : FnOk P w K mg base (CXE P w) 1 f fd ["_law_cell_here", "_law_parts"] (spDraws K) := by
  refine D.F.okN sc_draws (fun vs H Q E h => ?_) (fun cdv A outer s H vs Q E hr h => ?_)
  · obtain ⟨c, p, ps, rfl, _⟩ := h
    rfl
  · obtain ⟨c, p, ps, rfl, hS, hps, hl, k⟩ := h
    refine ⟨_, pss_cons (ps_cut (fun σ' H' => H' = H ∧ ∃ x2 x3 x4, σ' = [some (.int (mixM c)), some (.ref p), x2, x3, x4, none, none])
        (ps_if (pt_cmpR op_lt (pe_callB call_abs (by rfl) B.abs PyProof.Rows.boot_abs (pa_cons (pv 0) pa_nil)) (pe_op op_pow pe_int pe_int) (nomark _))
          (pss_cons (ps_set (i := 2) sc_draws.nd rfl (Or.inl rfl) (pe_op op_mod (pe_op op_add (pe_op op_mul (pv 0) pe_int) pe_int) pe_int))
          (pss_cons (ps_set (i := 3) sc_draws.nd rfl (Or.inl rfl) (pe_op op_mod (pe_op op_add (pe_op op_add (pe_op op_mul (pv 2) (pv 2)) (pe_op op_mul pe_int (pv 2))) (pv 0)) pe_int))
          (pss_cons (ps_set (i := 4) sc_draws.nd rfl (Or.inl rfl) (pe_op op_mod (pe_op op_add (pe_op op_mul (pv 3) pe_int) (pv 2)) pe_int))
          (pss_one (ps_set (i := 0) sc_draws.nd rfl (Or.inl rfl) (pe_op op_add (pv 3) (pe_op op_mul pe_int (pe_op op_add (pv 4) (pe_op op_mul pe_int (pv 2))))))))))
          (pss_one (ps_set (i := 0) sc_draws.nd rfl (Or.inl rfl) (pe_op op_sub (pe_callB call_abs (by rfl) B.abs PyProof.Rows.boot_abs (pa_cons (pv 0) pa_nil)) (pe_op op_pow pe_int pe_int))))))
      (pss_cons (ps_set (i := 5) sc_draws.nd rfl (Or.inl rfl) (pe_lst pa_nil))
      (pss_cons (ps_for PassesOwn.never rfl (pi_list (pv 1)) (pg_name (i := 6) sc_draws.nd rfl (Or.inl rfl))
        (pss_cons (ps_expr (pe_bm PySem.F.plainAttrs_list PySem.F.slot_list_append PySem.F.type_list_append mt_append (pv 5) (pa_cons (pe_op op_mod (pv 0) (pv 6)) pa_nil)))
        (pss_one (ps_set (i := 0) sc_draws.nd rfl (Or.inl rfl) (pe_op op_fdiv (pv 0) (pv 6))))))
      (pss_one (ps_ret (pv 5))))), ?_⟩
    have b1 := one_b c
    have b2 := two_b c
    have b3 := six_b c
    refine ⟨?_, ?_⟩
    · refine ⟨_, rfl, _, rfl, _, _, rfl, rfl, ⟨by decide, by decide, by decide⟩, _, _, rfl, rfl, _, rfl, ?_⟩
      refine ite2 (fun z => ?_) (fun z => ?_)
      · have z : absM c < 10 ^ 18 := of_decide_eq_true z
        refine ⟨_, rfl, _, _, rfl, rfl, .inr ⟨by decide, by decide⟩, _, _, rfl, rfl, _, _, rfl, rfl, (by show (0 : Int) < 2147483647; decide), ?_⟩
        refine ⟨_, rfl, _, rfl, _, _, rfl, rfl, .inl ⟨?_, ?_⟩, _, rfl, _, _, rfl, rfl, .inl ⟨by decide, by decide⟩, _, _, rfl, rfl, _, rfl, _, _, rfl, rfl, _, _, rfl, rfl, (by show (0 : Int) < 2147483399; decide), ?_⟩
        · show -(2 ^ 64) < oneM c; omega
        · show oneM c < 2 ^ 64; omega
        refine ⟨_, rfl, _, _, rfl, rfl, .inr ⟨by decide, by decide⟩, _, rfl, _, _, rfl, rfl, _, _, rfl, rfl, (by show (0 : Int) < 1000000007; decide), ?_⟩
        refine ⟨_, rfl, _, rfl, _, rfl, _, _, rfl, rfl, .inl ⟨by decide, by decide⟩, _, _, rfl, rfl, _, _, rfl, rfl, .inl ⟨by decide, by decide⟩, _, _, rfl, rfl, ?_⟩
        refine ⟨rfl, some (.int (oneM c)), some (.int (twoM c)), some (.int (sixM c)), ?_⟩
        have e : mixM c = twoM c + 2147483399 * (sixM c + 1000000007 * oneM c) := if_pos z
        rw [e]
        rfl
      · have z : ¬ absM c < 10 ^ 18 := fun q => z (decide_eq_true q)
        refine ⟨_, rfl, _, rfl, _, _, rfl, rfl, ⟨by decide, by decide, by decide⟩, _, _, rfl, rfl, ?_⟩
        refine ⟨rfl, none, none, none, ?_⟩
        have e : mixM c = absM c - 10 ^ 18 := if_neg z
        rw [e]
        rfl
    · rintro σ' H' ⟨rfl, x2, x3, x4, rfl⟩
      refine ⟨Nat.zero_le _, fun q hq => ?_⟩
      have S0 : Same H' (upd H' q (.lst [])) := Same.new hq
      refine ⟨_, rfl, p, rfl, ⟨_, S0.seq hS⟩, for_list (K := K) (a := p) (xs := ps.map V.int) (fun i σ H2 => ∃ v, σ = [some (.int (restM (mixM c) (ps.take i))), some (.ref p), x2, x3, x4, some (.ref q), v] ∧ Same H' H2 ∧ H2 q = some (.lst (((drawsM c ps).take i).map V.int)))
        ⟨none, rfl, S0, upd_same⟩ (fun i σ H2 _ ⟨_, _, s2, _⟩ => s2.seq hS) ?_ ?_⟩
      · rintro i y σ H2 hi ⟨v, rfl, s2, e2⟩
        rw [List.getElem?_map] at hi
        cases z : ps[i]? with
        | none => rw [z] at hi; cases hi
        | some d =>
          rw [z] at hi
          cases hi
          obtain ⟨d1, d2⟩ := hps d (List.mem_of_getElem? z)
          have il : i < ps.length := (List.getElem?_eq_some_iff.mp z).1
          refine ⟨_, rfl, .inl ⟨rfl, _, SqL.of e2⟩, _, rfl, _, rfl, _, _, rfl, rfl, d1, q, _, _, rfl, rfl, e2, ?_, ?_⟩
          · rw [List.length_map, List.length_take]
            exact small1000 (by omega)
          refine ⟨_, rfl, _, rfl, _, _, rfl, rfl, ⟨d1, d2⟩, ?_⟩
          refine ⟨some (.int d), ?_, fun b o hb => ?_, ?_⟩
          · rw [rest_take ps (mixM c) i d z]; rfl
          · rw [upd_ne (ne_of_none hb hq)]
            exact s2 b o hb
          · rw [upd_same]
            show some (HO.lst _) = _
            unfold drawsM
            rw [go_take ps (mixM c) i d z, List.map_append]
            rfl
      · rintro σ H2 ⟨v, rfl, s2, e2⟩
        refine ⟨_, rfl, k q H2 s2 hq ?_⟩
        rw [e2]
        have : (drawsM c ps).take (ps.map V.int).length = drawsM c ps := List.take_of_length_le (by unfold drawsM; rw [go_len, List.length_map]; exact Nat.le_refl _)
        rw [this]
end
end K44
set_option Elab.async false
set_option linter.all false
set_option maxRecDepth 100000
set_option maxHeartbeats 4000000
namespace K44
open PySem L2
abbrev s_same : Stmt := top 18
section
variable {P : Program} {w : World} {K : PySem.W.Frag} {mg : Str → Option Value} {base : Heap}
def spSame (K : PySem.W.Frag) : Nat → Sp
  | 0 => fun _ _ _ _ => False
  | m + 1 => fun vs H Q _ => ∃ (v1 v2 : V) (d1 d2 : Dt), vs = [v1, v2] ∧ Den K H v1 d1 ∧ Den K H v2 d2 ∧ d2.deep ≤ m ∧ ∀ H', Same H H' → Q (.bl (d1.eqb d2)) H'
theorem sc_same : FnScope ["_law_found", "_law_due"] ["_law_found", "_law_due"] (defScope s_same) := ⟨rfl, rfl, rfl, by decide +kernel, rfl, by decide +kernel, by decide +kernel⟩
theorem small1000' {n : Nat} (h : n ≤ 5000) : n < sizeLine := Nat.lt_of_le_of_lt h (by decide)
theorem nd3 : (["_law_k", "_law_found", "_law_due"] : List Str).Nodup := by decide +kernel
abbrev Ps : List Str := ["_law_found", "_law_due"]
theorem ok_same {f : Addr} {fd : FuncData} (D : Df K mg "_law_same" s_same Ps f fd) (B : Bt mg) (m : Nat) : FnOk P w K mg base (CXE P w) m f fd Ps (spSame K m) := by
  induction m with
  | zero => exact FnOk.no
  | succ m G =>
    refine D.F.okN sc_same (fun vs H Q E h => ?_) (fun cdv A outer s H vs Q E hr h => ?_)
    · obtain ⟨v1, v2, d1, d2, rfl, _⟩ := h
      rfl
    · obtain ⟨v1, v2, d1, d2, rfl, h1, h2, hd, k⟩ := h
      refine ⟨_, pss_cons (ps_if (pt_cmpR op_isN (pv 1) pe_non (nomark _)) (pss_one (ps_ret (pe_cmpR op_isN (pv 0) pe_non (nomark _)))) pss_nil)
        (pss_cons (ps_if (pt_val (pe_callB call_isi (by rfl) B.isi (by rfl) (pa_cons (pv 1) (pa_cons (pe_bltn (by rfl) B.str (v := .ty "str") (u := .type "str") (by rfl) rfl) pa_nil))))
            (pss_one (ps_ret (pe_and (pe_callB call_isi (by rfl) B.isi (by rfl) (pa_cons (pv 0) (pa_cons (pe_bltn (by rfl) B.str (v := .ty "str") (u := .type "str") (by rfl) rfl) pa_nil)))
              (pe_one (pe_cmpR op_eq (pv 0) (pv 1) (nomark _)))))) pss_nil)
        (pss_cons (ps_if (pt_val (pe_callB call_isi (by rfl) B.isi (by rfl) (pa_cons (pv 1) (pa_cons (pe_bltn (by rfl) B.int (v := .ty "int") (u := .type "int") (by rfl) rfl) pa_nil))))
            (pss_one (ps_ret (pe_and (pe_callB call_isi (by rfl) B.isi (by rfl) (pa_cons (pv 0) (pa_cons (pe_bltn (by rfl) B.int (v := .ty "int") (u := .type "int") (by rfl) rfl) pa_nil)))
              (pe_and (pe_cmpR op_eq (pe_callB call_isi (by rfl) B.isi (by rfl) (pa_cons (pv 0) (pa_cons (pe_bltn (by rfl) B.bool (v := .ty "bool") (u := .type "bool") (by rfl) rfl) pa_nil)))
                  (pe_callB call_isi (by rfl) B.isi (by rfl) (pa_cons (pv 1) (pa_cons (pe_bltn (by rfl) B.bool (v := .ty "bool") (u := .type "bool") (by rfl) rfl) pa_nil))) (nomark _))
                (pe_one (pe_cmpR op_eq (pv 0) (pv 1) (nomark _))))))) pss_nil)
        (pss_cons (ps_if (PW.pt (pw_or (pt_cmpR op_ne (pe_callB call_isi (by rfl) B.isi (by rfl) (pa_cons (pv 1) (pa_cons (pe_bltn (by rfl) B.list (v := .ty "list") (u := .type "list") (by rfl) rfl) pa_nil)))
                  (pe_callB call_isi (by rfl) B.isi (by rfl) (pa_cons (pv 0) (pa_cons (pe_bltn (by rfl) B.list (v := .ty "list") (u := .type "list") (by rfl) rfl) pa_nil))) (nomark _))
                (pw_or1 (pt_cmpR op_ne (pe_callB call_isi (by rfl) B.isi (by rfl) (pa_cons (pv 1) (pa_cons (pe_bltn (by rfl) B.tuple (v := .ty "tuple") (u := .type "tuple") (by rfl) rfl) pa_nil)))
                  (pe_callB call_isi (by rfl) B.isi (by rfl) (pa_cons (pv 0) (pa_cons (pe_bltn (by rfl) B.tuple (v := .ty "tuple") (u := .type "tuple") (by rfl) rfl) pa_nil))) (nomark _)))))
            (pss_one (ps_ret pe_bl)) pss_nil)
        (pss_one (ps_ret (pe_and (pe_cmpR op_eq (pe_callB call_len_seq (by rfl) B.len PySem.boot_len (pa_cons (pv 0) pa_nil)) (pe_callB call_len_seq (by rfl) B.len PySem.boot_len (pa_cons (pv 1) pa_nil)) (nomark _))
          (pe_one (pe_callB (call_all rfl) (by rfl) B.all (by rfl) (pa_cons
            (pe_comp (N' := ["_law_k", "_law_found", "_law_due"]) (fm := [none, some 0, some 1]) rfl ⟨rfl, by decide +kernel, by decide +kernel, rfl, rfl, rfl⟩
              (pi_range1 (by rfl) B.range (pa_cons (pe_callB call_len_seq (by rfl) B.len PySem.boot_len (pa_cons (pv 1) pa_nil)) pa_nil))
              (fun _ _ _ _ => pg_name (i := 0) nd3 rfl (Or.inl rfl)) (fun _ _ _ _ => pif_nil)
              (fun _ _ _ _ => pe_fn D G hr passN (pa_cons (pe_ix (r := rIx K) ix_seq (pv 1) (pv 0) (fun _ _ => rfl)) (pa_cons (pe_ix (r := rIx K) ix_seq (pv 2) (pv 0) (fun _ _ => rfl)) pa_nil)))) pa_nil))))))))), ?_⟩
      have kk := h1.kdIs
      have fin := k H (Same.refl H)
      cases h2 with
      | non =>
        refine ⟨_, rfl, rfl, _, rfl, iteT ⟨_, rfl, rfl, ?_⟩⟩
        have e := h1.isN
        rw [e]
        exact fin
      | str y =>
        refine ⟨_, rfl, rfl, _, rfl, iteF ⟨_, rfl, _, .str, "str", true, rfl, trivial, rfl, _, rfl, iteT ?_⟩⟩
        cases h1 with
        | str x =>
          refine ⟨_, rfl, _, .str, "str", true, rfl, trivial, rfl, _, rfl, iteT ⟨_, rfl, _, rfl, rfl, ?_⟩⟩
          have e : decide (V.str x = V.str y) = (Dt.str x).eqb (.str y) := by simp [Dt.eqb]
          rw [e]
          exact fin
        | non => exact ⟨_, rfl, _, .non, "str", false, rfl, kk, rfl, _, rfl, iteF fin⟩
        | bl _ => exact ⟨_, rfl, _, .bl, "str", false, rfl, kk, rfl, _, rfl, iteF fin⟩
        | int _ => exact ⟨_, rfl, _, .int, "str", false, rfl, kk, rfl, _, rfl, iteF fin⟩
        | lst _ _ _ _ => exact ⟨_, rfl, _, .lst, "str", false, rfl, kk, rfl, _, rfl, iteF fin⟩
        | tup _ _ _ _ => exact ⟨_, rfl, _, .tup, "str", false, rfl, kk, rfl, _, rfl, iteF fin⟩
      | int y =>
        refine ⟨_, rfl, rfl, _, rfl, iteF ⟨_, rfl, _, .int, "str", false, rfl, trivial, rfl, _, rfl, iteF ⟨_, rfl, _, .int, "int", true, rfl, trivial, rfl, _, rfl, iteT ?_⟩⟩⟩
        cases h1 with
        | int x =>
          refine ⟨_, rfl, _, .int, "int", true, rfl, trivial, rfl, _, rfl, iteT ⟨_, rfl, _, .int, "bool", false, rfl, trivial, rfl, _, rfl, _, .int, "bool", false, rfl, trivial, rfl, rfl, _, rfl, iteT ⟨_, rfl, _, rfl, rfl, ?_⟩⟩⟩
          have e : decide (V.int x = V.int y) = (Dt.int x).eqb (.int y) := dec_int
          rw [e]
          exact fin
        | bl x => exact ⟨_, rfl, _, .bl, "int", true, rfl, trivial, rfl, _, rfl, iteT ⟨_, rfl, _, .bl, "bool", true, rfl, trivial, rfl, _, rfl, _, .int, "bool", false, rfl, trivial, rfl, rfl, _, rfl, iteF fin⟩⟩
        | non => exact ⟨_, rfl, _, .non, "int", false, rfl, kk, rfl, _, rfl, iteF fin⟩
        | str _ => exact ⟨_, rfl, _, .str, "int", false, rfl, kk, rfl, _, rfl, iteF fin⟩
        | lst _ _ _ _ => exact ⟨_, rfl, _, .lst, "int", false, rfl, kk, rfl, _, rfl, iteF fin⟩
        | tup _ _ _ _ => exact ⟨_, rfl, _, .tup, "int", false, rfl, kk, rfl, _, rfl, iteF fin⟩
      | bl y =>
        refine ⟨_, rfl, rfl, _, rfl, iteF ⟨_, rfl, _, .bl, "str", false, rfl, trivial, rfl, _, rfl, iteF ⟨_, rfl, _, .bl, "int", true, rfl, trivial, rfl, _, rfl, iteT ?_⟩⟩⟩
        cases h1 with
        | bl x =>
          refine ⟨_, rfl, _, .bl, "int", true, rfl, trivial, rfl, _, rfl, iteT ⟨_, rfl, _, .bl, "bool", true, rfl, trivial, rfl, _, rfl, _, .bl, "bool", true, rfl, trivial, rfl, rfl, _, rfl, iteT ⟨_, rfl, _, rfl, rfl, ?_⟩⟩⟩
          have e : decide (V.bl x = V.bl y) = (Dt.bl x).eqb (.bl y) := dec_bl
          rw [e]
          exact fin
        | int x => exact ⟨_, rfl, _, .int, "int", true, rfl, trivial, rfl, _, rfl, iteT ⟨_, rfl, _, .int, "bool", false, rfl, trivial, rfl, _, rfl, _, .bl, "bool", true, rfl, trivial, rfl, rfl, _, rfl, iteF fin⟩⟩
        | non => exact ⟨_, rfl, _, .non, "int", false, rfl, kk, rfl, _, rfl, iteF fin⟩
        | str _ => exact ⟨_, rfl, _, .str, "int", false, rfl, kk, rfl, _, rfl, iteF fin⟩
        | lst _ _ _ _ => exact ⟨_, rfl, _, .lst, "int", false, rfl, kk, rfl, _, rfl, iteF fin⟩
        | tup _ _ _ _ => exact ⟨_, rfl, _, .tup, "int", false, rfl, kk, rfl, _, rfl, iteF fin⟩
      | @lst a2 xs2 ds2 hq2 hl2 hz2 hx2 =>
        have k2 : kdIs K H (.ref a2) .lst := ⟨_, hq2⟩
        refine ⟨_, rfl, rfl, _, rfl, iteF ⟨_, rfl, _, .lst, "str", false, rfl, k2, rfl, _, rfl, iteF ⟨_, rfl, _, .lst, "int", false, rfl, k2, rfl, _, rfl, iteF ⟨_, rfl, _, .lst, "list", true, rfl, k2, rfl, ?_⟩⟩⟩⟩
        cases h1 with
        | non => exact ⟨_, rfl, _, .non, "list", false, rfl, kk, rfl, rfl, _, rfl, iteT (iteT fin)⟩
        | bl _ => exact ⟨_, rfl, _, .bl, "list", false, rfl, kk, rfl, rfl, _, rfl, iteT (iteT fin)⟩
        | int _ => exact ⟨_, rfl, _, .int, "list", false, rfl, kk, rfl, rfl, _, rfl, iteT (iteT fin)⟩
        | str _ => exact ⟨_, rfl, _, .str, "list", false, rfl, kk, rfl, rfl, _, rfl, iteT (iteT fin)⟩
        | tup _ _ _ _ => exact ⟨_, rfl, _, .tup, "list", false, rfl, kk, rfl, rfl, _, rfl, iteT (iteT fin)⟩
        | @lst a1 xs1 ds1 hq1 hl1 hz1 hx1 =>
          refine ⟨_, rfl, _, .lst, "list", true, rfl, kk, rfl, rfl, _, rfl, iteF ⟨_, rfl, _, .lst, "tuple", false, rfl, k2, rfl, _, rfl, _, .lst, "tuple", false, rfl, kk, rfl, rfl, _, rfl, iteF ?_⟩⟩
          refine ⟨_, rfl, a1, _, rfl, .inl hq1, _, rfl, a2, _, rfl, .inl hq2, rfl, _, rfl, ?_⟩
          refine ite2 (fun c => ?_) (fun c => ?_)
          · have c : V.int ((xs1.length : Nat) : Int) = V.int ((xs2.length : Nat) : Int) := of_decide_eq_true c
            have el : ds1.length = ds2.length := by injection c with c; omega
            cases m with
            | zero => exact absurd hd (by show ¬ 1 + _ ≤ 0; omega)
            | succ m =>
              refine ⟨_, rfl, a2, _, rfl, .inl hq2, _, rfl, by omega, by rw [hl2]; omega, fun p hp => ?_⟩
              have en : ((xs2.length : Nat) : Int).toNat = ds2.length := by omega
              rw [en]
              refine blk_range (fun i σ H2 => ∃ v, σ = [v, some (.ref a1), some (.ref a2)] ∧ Same H H2 ∧ H2 p = some (.lst ((((ds1.zip ds2).map fun q => q.1.eqb q.2).take i).map V.bl))) ⟨none, rfl, Same.new hp, upd_same⟩ ?_ ?_
              · rintro i σ H2 hi ⟨v, rfl, s2, e2⟩
                have e1 : ds1[i]? = some ds1[i] := List.getElem?_eq_getElem (by omega)
                have e2' : ds2[i]? = some ds2[i] := List.getElem?_eq_getElem hi
                have f1 : xs1[i]? = some xs1[i] := List.getElem?_eq_getElem (by omega)
                have f2 : xs2[i]? = some xs2[i] := List.getElem?_eq_getElem (by omega)
                have ei : (0 : Int) + (i : Int) = (i : Int) := Int.zero_add _
                refine turn_all ⟨_, rfl, _, rfl, .inl ⟨a1, _, _, _, rfl, rfl, s2.seq hq1, (by rw [ei]; exact atI_nat f1), _, rfl, _, rfl, .inl ⟨a2, _, _, _, rfl, rfl, s2.seq hq2, (by rw [ei]; exact atI_nat f2), ?_⟩⟩⟩
                refine ⟨_, _, _, _, rfl, (hx1 i _ _ f1 e1).mono s2, (hx2 i _ _ f2 e2').mono s2, ?_, fun H3 s3 => ?_⟩
                · have h1 : 1 + Dt.deep.deeps ds2 ≤ m + 1 := hd
                  have := deep_mem e2'
                  omega
                · refine ⟨_, s3 p _ e2, ?_, _, rfl, fun b o hb => ?_, ?_⟩
                  · rw [List.length_map, List.length_take]
                    exact small1000' (by omega)
                  · rw [upd_ne (ne_of_none hb hp)]
                    exact s3 b o (s2 b o hb)
                  · rw [upd_same]
                    have z : ((ds1.zip ds2).map fun q => q.1.eqb q.2)[i]? = some (ds1[i].eqb ds2[i]) := by
                      rw [List.getElem?_map, (List.getElem?_zip_eq_some (z := (ds1[i], ds2[i]))).mpr ⟨e1, e2'⟩]
                      rfl
                    rw [List.take_add_one, z, List.map_append]
                    rfl
              · rintro σ H2 ⟨v, rfl, s2, e2⟩
                have ek : ((ds1.zip ds2).map fun q => q.1.eqb q.2).take ds2.length = ((ds1.zip ds2).map fun q => q.1.eqb q.2) := List.take_of_length_le (by rw [List.length_map, List.length_zip]; omega)
                rw [ek] at e2
                refine ⟨p, _, rfl, SqL.of e2, ?_⟩
                have := k H2 s2
                have ee : (Dt.lst ds1).eqb (Dt.lst ds2) = ((ds1.zip ds2).map fun q => q.1.eqb q.2).all id := eqbs_all ds1 ds2 el
                rw [ee] at this
                exact this
          · have el : ds1.length ≠ ds2.length := fun z => c (decide_eq_true (by rw [hl1, hl2, z]))
            have ee : (Dt.lst ds1).eqb (Dt.lst ds2) = false := eqbs_len ds1 ds2 el
            rw [ee] at fin
            exact fin
      | @tup a2 xs2 ds2 hq2 hl2 hz2 hx2 =>
        have k2 : kdIs K H (.ref a2) .tup := ⟨_, hq2⟩
        refine ⟨_, rfl, rfl, _, rfl, iteF ⟨_, rfl, _, .tup, "str", false, rfl, k2, rfl, _, rfl, iteF ⟨_, rfl, _, .tup, "int", false, rfl, k2, rfl, _, rfl, iteF ⟨_, rfl, _, .tup, "list", false, rfl, k2, rfl, ?_⟩⟩⟩⟩
        cases h1 with
        | non => exact ⟨_, rfl, _, .non, "list", false, rfl, kk, rfl, rfl, _, rfl, iteF ⟨_, rfl, _, .tup, "tuple", true, rfl, k2, rfl, _, rfl, _, .non, "tuple", false, rfl, kk, rfl, rfl, _, rfl, iteT fin⟩⟩
        | bl _ => exact ⟨_, rfl, _, .bl, "list", false, rfl, kk, rfl, rfl, _, rfl, iteF ⟨_, rfl, _, .tup, "tuple", true, rfl, k2, rfl, _, rfl, _, .bl, "tuple", false, rfl, kk, rfl, rfl, _, rfl, iteT fin⟩⟩
        | int _ => exact ⟨_, rfl, _, .int, "list", false, rfl, kk, rfl, rfl, _, rfl, iteF ⟨_, rfl, _, .tup, "tuple", true, rfl, k2, rfl, _, rfl, _, .int, "tuple", false, rfl, kk, rfl, rfl, _, rfl, iteT fin⟩⟩
        | str _ => exact ⟨_, rfl, _, .str, "list", false, rfl, kk, rfl, rfl, _, rfl, iteF ⟨_, rfl, _, .tup, "tuple", true, rfl, k2, rfl, _, rfl, _, .str, "tuple", false, rfl, kk, rfl, rfl, _, rfl, iteT fin⟩⟩
        | lst _ _ _ _ => exact ⟨_, rfl, _, .lst, "list", true, rfl, kk, rfl, rfl, _, rfl, iteT (iteT fin)⟩
        | @tup a1 xs1 ds1 hq1 hl1 hz1 hx1 =>
          refine ⟨_, rfl, _, .tup, "list", false, rfl, kk, rfl, rfl, _, rfl, iteF ⟨_, rfl, _, .tup, "tuple", true, rfl, k2, rfl, _, rfl, _, .tup, "tuple", true, rfl, kk, rfl, rfl, _, rfl, iteF ?_⟩⟩
          refine ⟨_, rfl, a1, _, rfl, .inr hq1, _, rfl, a2, _, rfl, .inr hq2, rfl, _, rfl, ?_⟩
          refine ite2 (fun c => ?_) (fun c => ?_)
          · have c : V.int ((xs1.length : Nat) : Int) = V.int ((xs2.length : Nat) : Int) := of_decide_eq_true c
            have el : ds1.length = ds2.length := by injection c with c; omega
            cases m with
            | zero => exact absurd hd (by show ¬ 1 + _ ≤ 0; omega)
            | succ m =>
              refine ⟨_, rfl, a2, _, rfl, .inr hq2, _, rfl, by omega, by rw [hl2]; omega, fun p hp => ?_⟩
              have en : ((xs2.length : Nat) : Int).toNat = ds2.length := by omega
              rw [en]
              refine blk_range (fun i σ H2 => ∃ v, σ = [v, some (.ref a1), some (.ref a2)] ∧ Same H H2 ∧ H2 p = some (.lst ((((ds1.zip ds2).map fun q => q.1.eqb q.2).take i).map V.bl))) ⟨none, rfl, Same.new hp, upd_same⟩ ?_ ?_
              · rintro i σ H2 hi ⟨v, rfl, s2, e2⟩
                have e1 : ds1[i]? = some ds1[i] := List.getElem?_eq_getElem (by omega)
                have e2' : ds2[i]? = some ds2[i] := List.getElem?_eq_getElem hi
                have f1 : xs1[i]? = some xs1[i] := List.getElem?_eq_getElem (by omega)
                have f2 : xs2[i]? = some xs2[i] := List.getElem?_eq_getElem (by omega)
                have ei : (0 : Int) + (i : Int) = (i : Int) := Int.zero_add _
                refine turn_all ⟨_, rfl, _, rfl, .inr (.inl ⟨a1, _, _, _, rfl, rfl, s2.seqT hq1, (by rw [ei]; exact atI_nat f1), _, rfl, _, rfl, .inr (.inl ⟨a2, _, _, _, rfl, rfl, s2.seqT hq2, (by rw [ei]; exact atI_nat f2), ?_⟩)⟩)⟩
                refine ⟨_, _, _, _, rfl, (hx1 i _ _ f1 e1).mono s2, (hx2 i _ _ f2 e2').mono s2, ?_, fun H3 s3 => ?_⟩
                · have h1 : 1 + Dt.deep.deeps ds2 ≤ m + 1 := hd
                  have := deep_mem e2'
                  omega
                · refine ⟨_, s3 p _ e2, ?_, _, rfl, fun b o hb => ?_, ?_⟩
                  · rw [List.length_map, List.length_take]
                    exact small1000' (by omega)
                  · rw [upd_ne (ne_of_none hb hp)]
                    exact s3 b o (s2 b o hb)
                  · rw [upd_same]
                    have z : ((ds1.zip ds2).map fun q => q.1.eqb q.2)[i]? = some (ds1[i].eqb ds2[i]) := by
                      rw [List.getElem?_map, (List.getElem?_zip_eq_some (z := (ds1[i], ds2[i]))).mpr ⟨e1, e2'⟩]
                      rfl
                    rw [List.take_add_one, z, List.map_append]
                    rfl
              · rintro σ H2 ⟨v, rfl, s2, e2⟩
                have ek : ((ds1.zip ds2).map fun q => q.1.eqb q.2).take ds2.length = ((ds1.zip ds2).map fun q => q.1.eqb q.2) := List.take_of_length_le (by rw [List.length_map, List.length_zip]; omega)
                rw [ek] at e2
                refine ⟨p, _, rfl, SqL.of e2, ?_⟩
                have := k H2 s2
                have ee : (Dt.tup ds1).eqb (Dt.tup ds2) = ((ds1.zip ds2).map fun q => q.1.eqb q.2).all id := eqbs_all ds1 ds2 el
                rw [ee] at this
                exact this
          · have el : ds1.length ≠ ds2.length := fun z => c (decide_eq_true (by rw [hl1, hl2, z]))
            have ee : (Dt.tup ds1).eqb (Dt.tup ds2) = false := eqbs_len ds1 ds2 el
            rw [ee] at fin
            exact fin
end
end K44
set_option Elab.async false
set_option linter.all false
set_option maxRecDepth 100000
set_option maxHeartbeats 4000000
namespace L2
open PySem PySem.Spec PyProof.Rows
def tx (n : Nat) (c : Nat → Nat) : Str := ⟨((List.range n).map c).toArray⟩
def s1 (c : Nat) : V := .str ⟨#[c]⟩
theorem tx_len (n : Nat) (c : Nat → Nat) : (tx n c).length = n := by show (((List.range n).map c).toArray).size = _; simp
theorem tx_snoc (i : Nat) (c : Nat → Nat) : tx i c ++ (⟨#[c i]⟩ : Str) = tx (i + 1) c := by
  show (⟨((List.range i).map c).toArray ++ #[c i]⟩ : Str) = ⟨((List.range (i + 1)).map c).toArray⟩
  simp [List.range_succ]
theorem tx_snoc' {i : Nat} {c : Nat → Nat} {d : Nat} (h : d = c i) : tx i c ++ (⟨#[d]⟩ : Str) = tx (i + 1) c := by rw [h]; exact tx_snoc i c
end L2
namespace L2
open PySem PySem.Spec PyProof.Rows
section
variable {p T : Addr} {K : PySem.W.Frag} {te : TE} {N : St → Hp → Prop} {x y z : V} {σ : St} {H : Hp}
end
theorem Same.trans' {H H1 H2 : Hp} (a : Same H H1) (b : Same H1 H2) : Same H H2 := fun c o e => b c o (a c o e)
theorem Same.grow {H H2 : Hp} {p : Addr} {o : HO} (hp : H p = none) (s : Same H H2) : Same H (upd H2 p o) := fun b u e => by rw [upd_ne (ne_of_none e hp)]; exact s b u e
end L2
namespace L2
open PySem PySem.Spec PyProof.Rows
end L2
set_option Elab.async false
set_option linter.all false
set_option maxRecDepth 100000
set_option maxHeartbeats 4000000
namespace L2
open PySem PySem.Spec PyProof.Rows
structure ZL (n : Nat) (a b : Addr) (i : Nat) (f0 : Value) (h : Heap) : Prop where
  zz : h.get? (n + 4) = some { cls := .type "zip", dict := none, data := .fields #[f0, .bool false, .bool false, .ref (n + 2), .ref (n + 3)], slots := #[] }
  ti : h.get? (n + 2) = some { cls := .type "tuple", data := .seq #[.ref n, .ref (n + 1)] }
  to : ∃ a b, h.get? (n + 3) = some { cls := .type "tuple", data := .seq #[a, b] }
  i1 : h.IsListIter n a i
  i2 : h.IsTupleIter (n + 1) b i
  la : (a : Nat) < n
  lb : (b : Nat) < n
theorem nlt {a : Addr} {n k : Nat} (h : (a : Nat) < n) : a ≠ n + k := Nat.ne_of_lt (Nat.lt_of_lt_of_le h (Nat.le_add_right ..))
theorem isList_at {h h' : Heap} {a : Addr} {x : Array Value} (p : h.IsList a x) (k : ∀ o, h.get? a = some o → h'.get? a = some o) : h'.IsList a x := by
  obtain ⟨o, e, r⟩ := p
  exact ⟨o, k o e, r⟩
theorem isTuple_at {h h' : Heap} {a : Addr} {x : Array Value} (p : h.IsTuple a x) (k : ∀ o, h.get? a = some o → h'.get? a = some o) : h'.IsTuple a x := by
  obtain ⟨o, e, r⟩ := p
  exact ⟨o, k o e, r⟩
section
variable {prog : Program} {w : World} {A : Around} {E : Value → Shared → Prop} {s : Shared} {n : Nat} {x y : Array Value} {i : Nat} {a b it t : Addr} {v1 v2 : Value}
theorem nextTup_item {Q : Value → Shared → Prop} (st : s.heap.IsTupleIter it t i) (ht : s.heap.IsTuple t x) (hx : x[i]? = some v1) (hQ : ∀ h', h'.IsTupleIter it t (i + 1) → Heap.SameBut it s.heap h' → Q v1 { s with heap := h' }) :
    wpAny (model prog w) A (Builtin.SmallTypes.nextOf (.ref it)) Q E s := by
  have hT := st.typeIs
  unfold Builtin.SmallTypes.nextOf
  refine wpAny_bind (wpAny_callSpecial?_slot (name := Str.ofString "__next__") hT F.slot_tuple_iterator_next (wpAny_call_entry F.slot_tuple_iterator_next hT F.entry_tuple_iterator_next ?_ (F.args_tuple_iterator_next_1 _)))
  obtain ⟨⟨oc, od, odt, osl⟩, ho, hc, hd⟩ := st
  cases hc
  cases hd
  obtain ⟨ot, hto, htc, m, htd⟩ := ht
  show wpAny _ _ (field (.ref it) 0 >>= _) _ _ _
  refine wpAny_bind (wpAny_field ho rfl (x := .ref t) rfl ?_)
  show wpAny _ _ (field (.ref it) 1 >>= _) _ _ _
  refine wpAny_bind (wpAny_field ho rfl (x := .int i 0) rfl ?_)
  show wpAny _ _ (seqItems? (.ref t) >>= _) _ _ _
  refine wpAny_bind (wpAny_seqItems hto htd ?_)
  have hx' : x[(i : Int).toNat]? = some v1 := hx
  simp only [hx']
  refine wpAny_bind (wpAny_setField ho rfl (by simp) ?_)
  refine wpAny_pure ⟨_, rfl, wpAny_pure (hQ _ ?_ (Heap.SameBut.update ..))⟩
  exact ⟨_, Heap.get?_update_self _ ho rfl, rfl, rfl⟩
theorem zl_item {Q : Value → Shared → Prop} (Z : ZL n a b i .none s.heap) (p1 : s.heap.IsList a x) (p2 : s.heap.IsTuple b y) (h1 : x[i]? = some v1) (h2 : y[i]? = some v2)
    (hQ : ∀ h', ZL n a b (i + 1) (rawInt s.heap.objs.size) h' → h'.get? s.heap.objs.size = some { cls := .type "tuple", data := .seq #[v1, v2] } →
      (∀ (c : Nat) o, (c < n ∨ n + 5 ≤ c) → s.heap.get? c = some o → h'.get? c = some o) → Q (.ref s.heap.objs.size) { s with heap := h' }) :
    wpAny (model prog w) A (Builtin.«zip.__next__» ⟨[.ref (n + 4)], []⟩) (fun fin s' => ∃ v, fin = .done (.ret v) ∧ Q v s') E s := by
  obtain ⟨hz, hTI, ⟨c, d, hTO⟩, i1, i2, la, lb⟩ := Z
  have la' : (a : Nat) < n := la
  have lb' : (b : Nat) < n := lb
  show wpAny _ _ (field (.ref (n + 4)) 2 >>= _) _ _ _
  refine wpAny_bind (wpAny_field hz rfl (x := .bool false) rfl ?_)
  show wpAny _ _ (field (.ref (n + 4)) 3 >>= _) _ _ _
  refine wpAny_bind (wpAny_field hz rfl (x := .ref (n + 2)) rfl (wpAny_bind (wpAny_seqItems hTI rfl ?_)))
  show wpAny _ _ (Builtin.SmallTypes.ownedTupleIsFree (.ref (n + 4)) >>= _) _ _ _
  refine wpAny_bind ?_
  unfold Builtin.SmallTypes.ownedTupleIsFree
  refine wpAny_bind (wpAny_field hz rfl (x := .none) rfl (wpAny_pure ?_))
  simp only [if_true]
  refine wpAny_bind (wpAny_rule (wpAny_bind (wpAny_field hz rfl (x := .ref (n + 3)) rfl ?_)))
  refine wpAny_bind (wpAny_setField_rec hz (by simp) fun g1 z1 s1 => ?_)
  refine wpAny_bind ?_
  simp only [List.zipIdx_cons, List.zipIdx_nil, List.forIn_cons, List.forIn_nil]
  refine wpAny_bind (wpAny_bind (wpAny_onRaise ?_))
  show wpAny _ _ (Builtin.SmallTypes.nextOf (.ref n) >>= _) _ _ _
  refine wpAny_bind (wpAny_nextOf_list_item (i1.at fun o e => s1.extBut _ _ (nea (by omega)) e) (isList_at p1 fun o e => s1.extBut _ _ (nlt la) e) h1 fun g2 i1' s2 => wpAny_pure ?_)
  have hT2 : g2.get? (n + 3) = _ := s2.extBut _ _ (nea (by omega)) (s1.extBut _ _ (nea (by omega)) hTO)
  refine wpAny_bind (wpAny_seqItems hT2 rfl (wpAny_bind (updTup hT2 (by simp) fun g3 hT3 s3 => wpAny_bind (wpAny_letGo (wpAny_pure ?_)))))
  refine wpAny_bind (wpAny_bind (wpAny_onRaise ?_))
  show wpAny _ _ (Builtin.SmallTypes.nextOf (.ref (n + 1)) >>= _) _ _ _
  refine wpAny_bind (nextTup_item (i2.at fun o e => s3.extBut _ _ (nea (by omega)) (s2.extBut _ _ (nea (by omega)) (s1.extBut _ _ (nea (by omega)) e))) (isTuple_at p2 fun o e => s3.extBut _ _ (nlt lb) (s2.extBut _ _ (nlt (k := 0) lb) (s1.extBut _ _ (nlt lb) e))) h2 fun g4 i2' s4 => wpAny_pure ?_)
  have hT4 : g4.get? (n + 3) = _ := s4.extBut _ _ (nea (by omega)) hT3
  refine wpAny_bind (wpAny_seqItems hT4 rfl (wpAny_bind (updTup hT4 (by simp) fun g5 hT5 s5 => wpAny_bind (wpAny_letGo (wpAny_pure (wpAny_pure ?_))))))
  have hT7' : g5.get? (n + 3) = some { cls := .type "tuple", data := .seq #[v1, v2] } := hT5
  have sz : g5.objs.size = s.heap.objs.size := by rw [s5.1, s4.1, s3.1, s2.1, s1.1]
  refine wpAny_bind (wpAny_seqItems hT7' rfl (wpAny_bind (wpAny_newTuple ?_)))
  show wpAny _ _ (Builtin.SmallTypes.ownedTupleHandOut (.ref (n + 4)) (.ref g5.objs.size) >>= _) _ _ _
  refine wpAny_bind ?_
  unfold Builtin.SmallTypes.ownedTupleHandOut
  have up7 : ∀ b o, b ≠ n → b ≠ n + 1 → b ≠ n + 3 → g1.get? b = some o → g5.get? b = some o := fun b o e1 e2 e4 e =>
    s5.extBut _ _ e4 (s4.extBut _ _ e2 (s3.extBut _ _ e4 (s2.extBut _ _ e1 e)))
  have z7 := up7 (n + 4) _ (nea (by omega)) (nea (by omega)) (nea (by omega)) z1
  refine wpAny_bind (wpAny_setField_rec (Heap.get?_push_of_some _ z7) (by simp) fun g8 z8 s8 => wpAny_setField_rec z8 (by simp) fun g9 z9 s9 => ?_)
  have lt : (n + 4 : Nat) < s.heap.objs.size := Heap.lt_size hz
  have up : ∀ b o, b ≠ n + 4 → g5.get? b = some o → g9.get? b = some o := fun b o e1 e => s9.extBut _ _ e1 (s8.extBut _ _ e1 (Heap.get?_push_of_some _ e))
  refine wpAny_pure ⟨_, rfl, ?_⟩
  show Q (.ref g5.objs.size) _
  rw [sz]
  refine hQ g9 ⟨?_, up _ _ (nea (by omega)) (up7 _ _ (nea (by omega)) (nea (by omega)) (nea (by omega)) (s1.extBut _ _ (nea (by omega)) hTI)), ⟨_, _, up _ _ (nea (by omega)) hT7'⟩, ?_, ?_, la, lb⟩ ?_ fun (b : Nat) o hb e => ?_
  · rw [← sz]; exact z9
  · exact i1'.at fun o e => up _ _ (nea (by omega)) (s5.extBut _ _ (nea (by omega)) (s4.extBut _ _ (nea (by omega)) (s3.extBut _ _ (nea (by omega)) e)))
  · exact i2'.at fun o e => up _ _ (nea (by omega)) (s5.extBut _ _ (nea (by omega)) e)
  · rw [← sz] at lt ⊢
    exact s9.extBut _ _ (nea (by omega)) (s8.extBut _ _ (nea (by omega)) (Heap.get?_push_size _ rfl))
  · exact up b o (nea (by omega)) (up7 b o (nea (by omega)) (nea (by omega)) (nea (by omega)) (s1.extBut _ _ (nea (by omega)) e))
theorem zipL_end {zz TI TO : Nat} {its : List Value} {Q : Fin → Shared → Prop} (hh : A.handled = none) (hz : s.heap.get? zz = some { cls := .type "zip", dict := none, data := .fields #[.none, .bool false, .bool false, .ref TI, .ref TO], slots := #[] })
    (hTI : s.heap.get? TI = some { cls := .type "tuple", data := .seq (Value.ref n :: its).toArray }) (i1 : s.heap.IsListIter n a i) (p1 : s.heap.IsList a x) (hx : x[i]? = none) (hne : n ≠ zz) (hne2 : (a : Nat) ≠ zz)
    (hE : ∀ h' e, (∀ (c : Nat) o, c ≠ zz → c ≠ n → s.heap.get? c = some o → h'.get? c = some o) → (∃ o, h'.get? e = some o ∧ o.cls = .type "StopIteration") → E (.ref e) { s with heap := h' }) :
    wpAny (model prog w) A (Builtin.«zip.__next__» ⟨[.ref zz], []⟩) Q E s := by
  show wpAny _ _ (field (.ref zz) 2 >>= _) _ _ _
  refine wpAny_bind (wpAny_field hz rfl (x := .bool false) rfl ?_)
  show wpAny _ _ (field (.ref zz) 3 >>= _) _ _ _
  refine wpAny_bind (wpAny_field hz rfl (x := .ref TI) rfl (wpAny_bind (wpAny_seqItems hTI rfl ?_)))
  show wpAny _ _ (Builtin.SmallTypes.ownedTupleIsFree (.ref zz) >>= _) _ _ _
  refine wpAny_bind ?_
  unfold Builtin.SmallTypes.ownedTupleIsFree
  refine wpAny_bind (wpAny_field hz rfl (x := .none) rfl (wpAny_pure ?_))
  simp only [if_true]
  refine wpAny_bind (wpAny_rule (wpAny_bind (wpAny_field hz rfl (x := .ref TO) rfl ?_)))
  refine wpAny_bind (wpAny_setField_rec hz (by simp) fun g1 z1 s1 => ?_)
  refine wpAny_bind ?_
  simp only [List.zipIdx_cons, List.forIn_cons]
  refine wpAny_bind (wpAny_bind (wpAny_onRaise ?_))
  show wpAny _ _ (Builtin.SmallTypes.nextOf (.ref n) >>= _) _ _ _
  refine wpAny_bind (wpAny_nextOf_list_end hh (i1.at fun o e => s1.extBut _ _ (nea hne) e) (isList_at p1 fun o e => s1.extBut _ _ (nea hne2) e) hx fun g2 e s2 he => ?_)
  obtain ⟨oe, hoe, hce⟩ := he
  have z2 := s2 zz _ (nea (Ne.symm hne)) z1
  have hez : e ≠ zz := fun q => by rw [q, z2] at hoe; cases hoe; simp at hce
  exact wpAny_setField_rec z2 (by simp) fun g3 _ s3 => hE g3 e (fun c o k1 k2 q => s3.extBut _ _ k1 (s2 _ _ k2 (s1.extBut _ _ k1 q))) ⟨oe, s3.extBut _ _ hez hoe, hce⟩
theorem zl_made {hp : Heap} {o1 o2 : Obj} (la : (a : Nat) < hp.objs.size) (lb : (b : Nat) < hp.objs.size) (e1 : (hp.push o1).IsListIter hp.objs.size a 0) (e2 : ((hp.push o1).push o2).IsTupleIter (hp.push o1).objs.size b 0) :
    ZL hp.objs.size a b 0 .none (((((hp.push o1).push o2).push (zT #[.ref hp.objs.size, .ref (hp.push o1).objs.size])).push (zT #[.none, .none])).push (zZ ((hp.push o1).push o2).objs.size (((hp.push o1).push o2).push (zT #[.ref hp.objs.size, .ref (hp.push o1).objs.size])).objs.size)) := by
  have s1 : ∀ (h : Heap) (o : Obj), (h.push o).objs.size = h.objs.size + 1 := fun h o => Heap.size_push ..
  have p : ∀ {h : Heap} {a : Addr} {u : Obj} (o : Obj), h.get? a = some u → (h.push o).get? a = some u := fun o e => Heap.get?_push_of_some _ e
  refine ⟨?_, p _ (p _ ?_), ⟨.none, .none, p _ ?_⟩, e1.at fun o e => p _ (p _ (p _ (p _ e))), ?_, la, lb⟩
  · rw [Heap.get?_push_at (by rw [s1, s1, s1, s1]) rfl]
    simp only [s1]
  · rw [Heap.get?_push_at (by rw [s1, s1]) rfl, s1]
  · exact Heap.get?_push_at (by rw [s1, s1, s1]) rfl
  · have q := e2.at fun o e => p (zZ ((hp.push o1).push o2).objs.size (((hp.push o1).push o2).push (zT #[.ref hp.objs.size, .ref (hp.push o1).objs.size])).objs.size) (p (zT #[.none, .none]) (p (zT #[.ref hp.objs.size, .ref (hp.push o1).objs.size]) e))
    rw [s1 hp o1] at q ⊢
    exact q
theorem iterL {Q : Value → Shared → Prop} (p : s.heap.IsList a x) (h : ∀ o : Obj, (s.heap.push o).IsListIter s.heap.objs.size a 0 → Q (.ref s.heap.objs.size) { s with heap := s.heap.push o }) : wpAny (model prog w) A (pyIter (.ref a)) Q E s :=
  wpAny_pyIter_list p (h _ ⟨_, Heap.get?_push_size _ rfl, rfl, rfl⟩)
theorem iterT {Q : Value → Shared → Prop} (p : s.heap.IsTuple a x) (h : ∀ o : Obj, (s.heap.push o).IsTupleIter s.heap.objs.size a 0 → Q (.ref s.heap.objs.size) { s with heap := s.heap.push o }) : wpAny (model prog w) A (pyIter (.ref a)) Q E s :=
  wpAny_pyIter_tuple p (h _ ⟨_, Heap.get?_push_size _ rfl, rfl, rfl⟩)
theorem zip_newL : Meets (Builtin.«zip.__new__» ⟨[.type "zip", .ref a, .ref b], []⟩) (fun _ R s => (∃ x, s.heap.IsList a x) ∧ (∃ y, s.heap.IsTuple b y) ∧ ∀ h', ZL s.heap.objs.size a b 0 .none h' → (∀ c o, s.heap.get? c = some o → h'.get? c = some o) → R (.ok (.ret (.ref (s.heap.objs.size + 4)))) { s with heap := h' }) :=
  .of_wp fun prog w A R s h => by
    obtain ⟨⟨x, p1⟩, ⟨y, p2⟩, h⟩ := h
    obtain ⟨hp, g, d, tk, os⟩ := s
    have hsub := sub_zip
    have la : (a : Nat) < hp.objs.size := by obtain ⟨o, e, _⟩ := p1; exact Heap.lt_size e
    have lb : (b : Nat) < hp.objs.size := by obtain ⟨o, e, _⟩ := p2; exact Heap.lt_size e
    have J1 : ∀ {A : Around} {E : Value → Shared → Prop} {Q : Value → Shared → Prop}, (∀ o : Obj, (hp.push o).IsListIter hp.objs.size a 0 → Q (.ref hp.objs.size) ⟨hp.push o, g, d, tk, os⟩) → wpAny (model prog w) A (pyIter (.ref a)) Q E ⟨hp, g, d, tk, os⟩ := fun h => iterL p1 h
    have J2 : ∀ {o1 : Obj} {A : Around} {E : Value → Shared → Prop} {Q : Value → Shared → Prop}, (∀ o : Obj, ((hp.push o1).push o).IsTupleIter (hp.push o1).objs.size b 0 → Q (.ref (hp.push o1).objs.size) ⟨(hp.push o1).push o, g, d, tk, os⟩) → wpAny (model prog w) A (pyIter (.ref b)) Q E ⟨hp.push o1, g, d, tk, os⟩ := fun h => iterT (isTuple_at p2 fun o e => Heap.get?_push_of_some _ e) h
    wp_walk using J1
    intro o1 e1
    wp_walk using J2
    intro o2 e2
    wp_walk
    refine ⟨_, rfl, ?_⟩
    have q := h _ (zl_made la lb e1 e2) fun c o e => Heap.get?_push_of_some _ (Heap.get?_push_of_some _ (Heap.get?_push_of_some _ (Heap.get?_push_of_some _ (Heap.get?_push_of_some _ e))))
    have e4 : ((((hp.push o1).push o2).push (zT #[.ref hp.objs.size, .ref (hp.push o1).objs.size])).push (zT #[.none, .none])).objs.size = hp.objs.size + 4 := by rw [Heap.size_push, Heap.size_push, Heap.size_push, Heap.size_push]
    dsimp only at q
    rw [← e4] at q
    exact q
theorem call_zipL {Q : Value → Shared → Prop} (p1 : s.heap.IsList a x) (p2 : s.heap.IsTuple b y) (h : ∀ h', ZL s.heap.objs.size a b 0 .none h' → (∀ c o, s.heap.get? c = some o → h'.get? c = some o) → Q (.ref (s.heap.objs.size + 4)) { s with heap := h' }) :
    wpAny (model prog w) A (call (.type "zip") [.ref a, .ref b]) Q E s := by
  refine callType_new F.called_zip (by decide) (by kernel_rfl) (by kernel_rfl) (fun obj => F.args_object_init_3 obj _ _) F.entry_zip_new zip_newL ⟨⟨x, p1⟩, ⟨y, p2⟩, ?_⟩
  intro h' Z k
  exact ⟨⟨_, Z.zz, rfl⟩, h h' Z k⟩
end
def ItzL (K : PySem.W.Frag) (a b : Addr) : It :=
  ⟨fun i H => ∃ xs ys x y, SqL K H a xs ∧ SqT K H b ys ∧ xs[i]? = some x ∧ ys[i]? = some y, fun i H v H' => ∃ T x y, v = .ref T ∧ H T = none ∧ H' = upd H T (.tup [x, y]) ∧ (∀ xs, SqL K H a xs → xs[i]? = some x) ∧ (∀ ys, SqT K H b ys → ys[i]? = some y), fun i H => ∃ xs, SqL K H a xs ∧ xs.length ≤ i⟩
theorem ZL.keep {n : Nat} {a b : Addr} {i : Nat} {f : Value} {h h' : Heap} (Z : ZL n a b i f h) (k : ∀ b ∈ fp2 n, ∀ o, h.get? b = some o → h'.get? b = some o) : ZL n a b i f h' := by
  obtain ⟨hz, hTI, ⟨c, d, hTO⟩, i1, i2, la, lb⟩ := Z
  exact ⟨k _ (by simp [fp2]) _ hz, k _ (by simp [fp2]) _ hTI, ⟨c, d, k _ (by simp [fp2]) _ hTO⟩, i1.at (k _ (by simp [fp2])), i2.at (k _ (by simp [fp2])), la, lb⟩
theorem ZL.ob {n : Nat} {a b : Addr} {i : Nat} {f : Value} {h : Heap} (Z : ZL n a b i f h) : ∀ b ∈ fp2 n, ∃ o, h.get? b = some o ∧ ∀ v, o.data ≠ .cell v := by
  obtain ⟨hz, hTI, ⟨c, d, hTO⟩, i1, i2, la, lb⟩ := Z
  intro b hb
  unfold fp2 at hb
  simp only [List.mem_cons, List.not_mem_nil, or_false] at hb
  rcases hb with rfl | rfl | rfl | rfl | rfl
  · obtain ⟨o, e, c, d⟩ := i1
    exact ⟨o, e, fun v z => by rw [d] at z; cases z⟩
  · obtain ⟨o, e, c, d⟩ := i2
    exact ⟨o, e, fun v z => by rw [d] at z; cases z⟩
  · exact ⟨_, hTI, fun v q => by cases q⟩
  · exact ⟨_, hTO, fun v q => by cases q⟩
  · exact ⟨_, hz, fun v q => by cases q⟩
section
variable {P : Program} {w : World} {K : PySem.W.Frag}
theorem turn_zipL {elts : List Expr} {k : Nat} {pos : Pos} (n : Nat) (a b : Addr) : Turn P w K (.Tuple elts k pos) (ItzL K a b) (fp2 n) (n + 4) (fun i h => ZL n a b i .none h) where
  mem := by simp [fp2]
  obj := fun i h Z => Z.ob
  keep := fun i h h' Z k => Z.keep k
  item := by
    intro X hP hw hK hc i pins s σ H E I hf Z hg
    subst hP hw hK
    obtain ⟨xs, ys, x, y, hq, hq2, hx, hy⟩ := hg
    obtain ⟨its, rv, p, hz⟩ := I.list hq
    obtain ⟨its2, rv2, p2, hz2⟩ := I.tuple hq2
    obtain ⟨u, hu, ru⟩ := rv.get hx
    obtain ⟨u2, hu2, ru2⟩ := rv2.get hy
    have lt : (n + 4 : Nat) < s.heap.objs.size := Heap.lt_size Z.zz
    refine zip_nextItem Z.zz rfl (zl_item Z p.isList (show s.heap.IsTuple b its2.toArray from p2) (v1 := u) (v2 := u2) (by simpa using hu) (by simpa using hu2) fun h' Z' hT hk => ?_)
    refine ⟨_, rfl, zip_go (s := { s with heap := h' }) Z'.zz fun h'' zz sb => ?_⟩
    have ne : s.heap.objs.size ∉ fp2 n := fun q => by
      obtain ⟨o, e, _⟩ := Z.ob _ q
      exact Nat.lt_irrefl _ (Heap.lt_size e)
    have hzm : (n + 4 : Nat) ∈ fp2 n := by simp [fp2]
    have neZ : ∀ b : Nat, b ∉ fp2 n → b ≠ n + 4 := fun b hb q => hb (q ▸ hzm)
    have hT2 := sb.extBut _ _ (nea (neZ _ ne)) hT
    have I1 : Inv X pins σ (upd H s.heap.objs.size (.tup [x, y])) { s with heap := h'' } := by
      refine I.turnLaid (t' := s.toks) (fp := fp2 n) hf (fun b o hb e => sb.extBut _ _ (nea (neZ b hb)) (hk b o (of_fp2 hb) e)) (Nat.le_refl _) ne ?_
      exact ⟨by show 2 ≤ sizeLine; rw [sizeLine_eq]; omega, _, .cons ru (.cons ru2 .nil), ⟨_, hT2, rfl, _, rfl⟩⟩
    have fr : H s.heap.objs.size = none := I.hok.fresh (Nat.le_refl _)
    obtain ⟨q1, q2, ⟨c, d, q3⟩, j1, j2, la, lb⟩ := Z'
    refine ⟨.ref s.heap.objs.size, _, I1, rfl, ⟨_, x, y, rfl, fr, rfl, fun zs hzs => by rw [I.list_inj hzs hq]; exact hx, fun zs hzs => by rw [I.tuple_inj hzs hq2]; exact hy⟩, ⟨zz, sb.extBut _ _ (nea (by omega)) q2, ⟨c, d, sb.extBut _ _ (nea (by omega)) q3⟩, j1.at fun o e => sb.extBut _ _ (nea (by omega)) e, j2.at fun o e => sb.extBut _ _ (nea (by omega)) e, la, lb⟩, fun b hb => ?_⟩
    have nb : b ≠ s.heap.objs.size := fun q => by rw [q] at hb; exact ne hb
    rw [upd_ne nb]
    exact (hf b hb).1
  done := by
    intro X hP hw hK hc i pins s σ H E I hf Z hg
    subst hP hw hK
    obtain ⟨xs, hq, hx⟩ := hg
    obtain ⟨its, rv, p, hz⟩ := I.list hq
    have hl := rv.length
    have la := Z.la
    have hx' : its.toArray[i]? = none := by simp; omega
    refine zip_nextEnd Z.zz rfl (zipL_end (A := X.A.in1) (I.ok.hd hc) Z.zz Z.ti Z.i1 p.isList hx' (by omega) (nlt la) fun h' e hk he => ?_)
    obtain ⟨o, e1, e2⟩ := he
    exact ⟨e, o, rfl, e1, e2, rfl, I.turnedL (fp := fp2 n) (t' := s.toks) hf fun b o hb q => hk b o (fun z => hb (by simp [fp2, z])) (fun z => hb (by simp [fp2, z])) q⟩
  self := fun A i s Q E Z h => zip_self Z.zz rfl h
end
section
variable {X : Cx}
def iZipL (K : PySem.W.Frag) (ta : TA) : TI := fun σ H R => ta σ H fun vs H1 => ∃ a b, vs = [.ref a, .ref b] ∧ (∃ xs, SqL K H1 a xs) ∧ (∃ ys, SqT K H1 b ys) ∧ R (ItzL K a b) H1
theorem pi_zipL {elts : List Expr} {k : Nat} {tp : Pos} {a b : Expr} {ta : TA} {p pos : Pos} (hg : Gl X "zip") (hm : X.mg "zip" = none) (ha : PA X [a, b] ta) (hs : starEach [a, b] X.env = (false, eval a X.env) :: starEach [b] X.env := by rfl) (hpl : (backTo pos (starEach [b] X.env)).any (·.1) = false := by rfl) :
    PI X (.Tuple elts k tp) (.Call (.Name "zip" p) [a, b] [] pos) (iZipL X.K ta) := by
  intro pins s σ H R I h
  refine Call_ (ld_blt I hg hm boot_zip (PyProof.Rows.callWith_type1 (thn (ha pos pins s σ H _ I h) fun us s1 ⟨vs, H1, I1, r1, q1⟩ => ?_) hs hpl))
  obtain ⟨x, y, rfl, ⟨xs, hx⟩, ⟨ys, hy⟩, q⟩ := q1
  obtain ⟨u, v, rfl, ru, rv⟩ := r1.two
  cases ru
  cases rv
  obtain ⟨its, _, p1, _⟩ := I1.list hx
  obtain ⟨its2, _, p2, _⟩ := I1.tuple hy
  refine call_zipL p1.isList (show s1.heap.IsTuple y its2.toArray from p2) fun h' Z k => zip_self (s := { s1 with heap := h' }) Z.zz rfl ?_
  refine ⟨_, fp2 s1.heap.objs.size, _, _, H1, rfl, I1.kept (t' := s1.toks) k, turn_zipL _ x y, Z, fun b hb => ?_, q⟩
  have hb' : s1.heap.objs.size ≤ b := by
    unfold fp2 at hb
    simp only [List.mem_cons, List.not_mem_nil, or_false] at hb
    rcases hb with rfl | rfl | rfl | rfl | rfl
    · exact Nat.le_refl _
    all_goals exact Nat.le_add_right _ _
  exact I1.fpOk hb' (I1.hok.fresh hb')
end
section
variable {K : PySem.W.Frag} {p a b : Addr} {xs ys : List V} {g : TG} {tt : TT} {te : TE} {σ0 : St} {H0 : Hp} {Q : Hp → Prop}
theorem blk_zipL (Pv : Nat → St → Hp → Prop) (h0 : Pv 0 σ0 H0) (hl : xs.length ≤ ys.length) (hS : ∀ i σ H, Pv i σ H → SqL K H a xs ∧ SqT K H b ys)
    (hs : ∀ i T x y σ H, xs[i]? = some x → ys[i]? = some y → H T = none → Pv i σ H → BlkTurn p g tt te (Pv (i + 1)) (.ref T) σ (upd H T (.tup [x, y]))) (hd : ∀ σ H, Pv xs.length σ H → Q H) : tBlk (ItzL K a b) p g tt te σ0 H0 Q := by
  refine ⟨fun i m σ H => m = xs.length - i ∧ i ≤ xs.length ∧ Pv i σ H, ⟨xs.length, by simp, Nat.zero_le _, h0⟩, ?_⟩
  rintro i m σ H ⟨rfl, hi, q⟩
  obtain ⟨s1, s2⟩ := hS i σ H q
  by_cases hlt : i < xs.length
  · have e1 : xs[i]? = some xs[i] := List.getElem?_eq_getElem hlt
    have e2 : ys[i]? = some (ys[i]'(by omega)) := List.getElem?_eq_getElem (by omega)
    refine .inr ⟨⟨xs, ys, _, _, s1, s2, e1, e2⟩, Pv (i + 1), fun σ' H' r => ⟨xs.length - (i + 1), by omega, rfl, hlt, r⟩, fun v H' r => ?_⟩
    obtain ⟨T, x, y, rfl, n, rfl, z1, z2⟩ := r
    exact hs i T x y σ H (z1 xs s1) (z2 ys s2) n q
  · have e : i = xs.length := by omega
    subst e
    exact .inl ⟨⟨xs, s1, Nat.le_refl _⟩, hd σ H q⟩
end
end L2
set_option Elab.async false
set_option linter.all false
set_option maxRecDepth 100000
set_option maxHeartbeats 1000000
namespace L2
open PySem PySem.Spec PyProof.Rows
def bigB (h : Heap) (H : Hp) (st : List Env) : Heap := PySem.W.hideAll h (trk h H ++ frs st)
theorem bigB_get {h : Heap} {H : Hp} {st : List Env} {b : Addr} {o : Obj} (e : h.get? b = some o) (n : H b = none) (hf : b ∉ frs st) : (bigB h H st).get? b = some o :=
  PySem.W.hideAll_get _ e fun hm => by
    rcases List.mem_append.mp hm with hm | hm
    · have q : (H b).isSome = true := (List.mem_filter.mp hm).2
      rw [n] at q; simp at q
    · exact hf hm
theorem of_bigB {h : Heap} {H : Hp} {st : List Env} {b : Addr} {o : Obj} (e : (bigB h H st).get? b = some o) : h.get? b = some o ∧ H b = none := by
  have e' : h.get? b = some o := PySem.W.of_hideAll _ e
  refine ⟨e', ?_⟩
  cases q : H b with
  | none => rfl
  | some x =>
    have hm : b ∈ trk h H := List.mem_filter.mpr ⟨List.mem_range.mpr (Heap.lt_size e'), by simp [q]⟩
    have z : (bigB h H st).get? b = none := PySem.W.hideAll_none _ (List.mem_append_left _ hm)
    rw [z] at e; cases e
theorem Mod.keeps {K : PySem.W.Frag} {mg : Str → Option Value} {b1 b2 : Heap} (m : Mod K mg b1) (k : ∀ b o, b1.get? b = some o → b2.get? b = some o) : Mod K mg b2 :=
  ⟨m.kin.keeps k, m.glob.keeps k, let ⟨mb, h1, h2⟩ := m.blt; ⟨mb, h1.keeps k, h2⟩, m.nolimit.keeps k⟩
theorem Env0.stays {P : Program} {w : World} {K : PySem.W.Frag} {mg : Str → Option Value} {base : Heap} {A : Around} {outer : List Env} {s : Shared} {H : Hp} (e : Env0 P w K mg base A outer s H) {b : Addr} {o : Obj} (q : base.get? b = some o) : (bigB s.heap H outer).get? b = some o :=
  bigB_get (e.bs b o q).1 (e.bs b o q).2 fun hm => by
    have := (e.funs.mem hm).1
    rw [q] at this; cases this
theorem Env0.big {P : Program} {w : World} {K : PySem.W.Frag} {mg : Str → Option Value} {base : Heap} {A : Around} {outer : List Env} {s : Shared} {H : Hp} (e : Env0 P w K mg base A outer s H) : Env0 P w K mg (bigB s.heap H outer) A outer s H :=
  ⟨e.frames, e.mod.keeps fun _ _ q => e.stays q, fun _ _ q => of_bigB q, Nat.le_of_eq (PySem.W.hideAll_size _ _), PySem.W.funFrames_hide e.funs fun env he a ha => List.mem_append_right _ (List.mem_filterMap.mpr ⟨env, he, ha⟩), e.frf, e.hok, e.bare⟩
def CodeE (c : Addr) (q : Str) : HO := .ext fun h => h.CodeRec (.ref c) q
theorem CodeE.ok {P : Program} {w : World} {H : Hp} {h : Heap} {c : Addr} {q : Str} (r : h.CodeRec (.ref c) q) : ObjOk P w H h c (CodeE c q) := by
  refine ⟨r, ?_, fun h1 h2 r1 k => ?_⟩
  · obtain ⟨_, o, _, _, e, ho, _⟩ := r
    cases e
    exact ⟨o, ho⟩
  · obtain ⟨_, o, vs, t, e, ho, r⟩ := r1
    cases e
    exact ⟨c, o, vs, t, rfl, k o ho, r⟩
structure TabOk (H : Hp) (P : Addr) (q : Str) : Prop where
  ex : ∃ ps, H P = some (.tbl ps) ∧ TriplesOk ps.toList ∧ ∀ pos cv, codeAmong pos ps.toList = some cv → ∃ c, cv = .ref c ∧ c ≠ P ∧ H c = some (CodeE c q)
theorem TabOk.same {H H' : Hp} {P : Addr} {q : Str} (t : TabOk H P q) (e : Same H H') : TabOk H' P q := by
  obtain ⟨ps, h1, h2, h3⟩ := t
  exact ⟨ps, e _ _ h1, h2, fun pos cv z => let ⟨c, e1, e2, e3⟩ := h3 pos cv z; ⟨c, e1, e2, e _ _ e3⟩⟩
theorem among_snoc (pos p2 : Pos) (c v : Value) : ∀ (l : List Value), TriplesOk l → codeAmong pos (l ++ [rawInt p2.line, rawInt p2.col, c]) = some v → codeAmong pos l = some v ∨ v = c
  | [], _, h => by
    rw [List.nil_append] at h
    unfold rawInt at h
    simp only [codeAmong] at h
    split at h
    · exact .inr (Option.some.inj h).symm
    · cases h
  | .int a _ :: .int b _ :: x :: r, ok, h => by
    simp only [List.cons_append, codeAmong] at h ⊢
    split at h
    · rename_i z
      rw [if_pos z]
      exact .inl h
    · rename_i z
      rw [if_neg z]
      exact among_snoc pos p2 c v r ok h
def SameP (P : Addr) (H H' : Hp) : Prop := ∀ b o, b ≠ P → H b = some o → H' b = some o
theorem SameP.refl (P : Addr) (H : Hp) : SameP P H H := fun _ _ _ e => e
theorem SameP.trans {P : Addr} {H H1 H2 : Hp} (a : SameP P H H1) (b : SameP P H1 H2) : SameP P H H2 := fun c o n e => b c o n (a c o n e)
theorem SameP.of {P : Addr} {H H' : Hp} (e : Same H H') : SameP P H H' := fun b o _ q => e b o q
end L2
set_option Elab.async false
set_option linter.all false
set_option maxRecDepth 100000
set_option maxHeartbeats 1000000
namespace L2
open PySem PySem.Spec PyProof.Rows
structure BMain (mg : Str → Option Value) (base : Heap) : Prop where
  ex : ∃ bm ob, mg "__builtins__" = some (.ref bm) ∧ bm ≠ builtinsNs ∧ base.get? bm = some ob ∧ ob.cls = .type "module" ∧ ob.dict = some builtinsNs ∧ ob.data = .plain
theorem BMain.keeps {mg : Str → Option Value} {b1 b2 : Heap} (m : BMain mg b1) (k : ∀ b o, b1.get? b = some o → b2.get? b = some o) : BMain mg b2 :=
  let ⟨bm, ob, e1, e2, e3, r⟩ := m.ex; ⟨bm, ob, e1, e2, k _ _ e3, r⟩
abbrev lamObj (qual : Str) (params : Arguments) (body : Expr) (scope : Scope) (cl : List (Str × Addr)) (pm : Value) (c : Addr) (ctv : Value) : Obj := PySem.W.kla_obj "<lambda>" qual params body scope cl pm c ctv
section
variable {X : Cx} {pins : List (Addr × Obj)} {σ : St} {H : Hp} {s : Shared}
theorem Inv.notStack (I : Inv X pins σ H s) {b : Addr} (h : s.heap.objs.size ≤ b) : b ∉ frs X.stack := fun hm => by
  obtain ⟨_, o, ho, _⟩ := I.stack.mem hm
  exact absurd (Nat.lt_of_lt_of_le (Heap.lt_size ho) h) (Nat.lt_irrefl _)
theorem lam_make {params : Arguments} {body : Expr} {scope : Scope} {pos : Pos} {c P : Addr} {cl : List (Str × Addr)} {Q : Value → Shared → Prop} (I : Inv X pins σ H s) (hdef : defaultsOf params X.env = ([], [])) (hcl : closureFor scope X.env = pure cl) (hcode : X.env.code = .ref c)
    (C : PySem.W.CodeHd X.base c P) (B : BMain X.mg X.base) (T : TabOk H P (X.env.qual ++ "<lambda>"))
    (h : ∀ (f c' : Addr) (ctv : Value) (H1 : Hp) (s1 : Shared), Inv X pins σ H1 s1 → s1.heap.get? f = some (lamObj (X.env.qual ++ "<lambda>") params body scope cl ((X.mg "__name__").getD .none) c' ctv) → H1 f = none → f ∉ frs X.stack →
      H1 c' = some (CodeE c' (X.env.qual ++ "<lambda>")) → TabOk H1 P (X.env.qual ++ "<lambda>") → SameP P H H1 → Q (.ref f) s1) : wpAny (model X.prog X.w) X.A (eval (.Lambda params body scope pos) X.env) Q X.xe s := by
  refine PySem.W.kla_eval hdef ?_
  obtain ⟨ps, hT, tr, hcs⟩ := T.ex
  have hP : s.heap.get? P = some (PySem.W.tabObj ps) := I.hok P _ hT
  have hg := I.ok.mod.glob.keeps I.bk
  have nG : mainGlobals ≠ P := fun z => by
    obtain ⟨o, es, ep, e, _⟩ := I.ok.mod.glob
    have := (I.bs _ _ e).2
    rw [z, hT] at this; cases this
  obtain ⟨bm, ob, b1, b2, b3, b4, b5, b6⟩ := B.ex
  have nP : bm ≠ P := fun z => by
    have := (I.bs _ _ b3).2
    rw [z, hT] at this; cases this
  have nM : bm ≠ mainGlobals := fun z => by
    obtain ⟨o, es, ep, e, hd, _⟩ := I.ok.mod.glob
    rw [z, e] at b3; cases b3; rw [hd] at b6; cases b6
  have hB : s.heap.BuiltinsAt X.mg P := ⟨bm, ob, b1, b2, nM, nP, I.bk _ _ b3, b4, b5, b6⟩
  cases hf : codeAmong pos ps.toList with
  | some cv =>
    obtain ⟨c', rfl, ne, hc'⟩ := hcs pos cv hf
    refine PySem.W.kla_makeFunctionHit (mg := X.mg) hcl I.ok.glob hg hcode (C.keeps I.bk) hP tr hf hB fun ctv h' tk hk hsz => ?_
    have k2 : ∀ b o, s.heap.get? b = some o → (h'.push (lamObj (X.env.qual ++ "<lambda>") params body scope cl ((X.mg "__name__").getD .none) c' ctv)).get? b = some o := fun b o e => Heap.get?_push_of_some _ (hk b o e)
    have hfr : H h'.objs.size = none := I.hok.fresh hsz
    exact h _ c' ctv H _ (I.kept k2) (Heap.get?_push_size _ rfl) hfr (I.notStack hsz) hc' T (SameP.refl P H)
  | none =>
    refine PySem.W.kla_makeFunction (mg := X.mg) hcl I.ok.glob hg hcode (C.keeps I.bk) hP tr hf nG hB fun c' ctv h' tk hx hge hlt hrec htb => ?_
    generalize hO : PySem.W.kla_obj "<lambda>" (X.env.qual ++ "<lambda>") params body scope cl ((X.mg "__name__").getD .none) c' ctv = O
    have k2 : ∀ b o, b ≠ P → s.heap.get? b = some o → (h'.push O).get? b = some o := fun b o n e => Heap.get?_push_of_some _ (hx b o n e)
    have hc0 : H c' = none := I.hok.fresh hge
    have nc : c' ≠ P := fun z => by rw [z, hT] at hc0; cases hc0
    have hsz : s.heap.objs.size ≤ h'.objs.size := Nat.le_of_lt (Nat.lt_of_le_of_lt hge hlt)
    have hf0 : H h'.objs.size = none := I.hok.fresh hsz
    have old : ∀ b u, b ≠ P → H b = some u → upd (upd H P (.tbl (ps ++ #[rawInt pos.line, rawInt pos.col, .ref c']))) c' (CodeE c' (X.env.qual ++ "<lambda>")) b = some u := fun b u n e => by
      rw [upd_ne (ne_of_none e hc0), upd_ne n]; exact e
    have eP : upd (upd H P (.tbl (ps ++ #[rawInt pos.line, rawInt pos.col, .ref c']))) c' (CodeE c' (X.env.qual ++ "<lambda>")) P = some (.tbl (ps ++ #[rawInt pos.line, rawInt pos.col, .ref c'])) := by
      rw [upd_ne (Ne.symm nc), upd_same]
    have J : Inv X pins σ (upd (upd H P (.tbl (ps ++ #[rawInt pos.line, rawInt pos.col, .ref c']))) c' (CodeE c' (X.env.qual ++ "<lambda>"))) { s with heap := h'.push O, toks := tk } := by
      refine I.step (g' := s.gens) (d' := s.drawn) (ch := []) (fun _ z => nomatch z) (fun b o _ _ _ e n => k2 b o (fun z => by rw [z, hT] at n; cases n) e) (fun b o _ _ _ e n => ⟨o.slots, k2 b o (fun z => by rw [z, hT] at n; cases n) e⟩) (fun b o _ e n => ?_) (fun b o _ e => ?_)
        (fun b xs e => old b _ (fun z => by rw [z, hT] at e; cases e) e) (fun b o u e => old b _ (fun z => by rw [z, hT] at e; cases e) e) (fun b qs e => ?_) (fun m hm => ?_) (fun b u e => ?_) I.bare
      · rw [upd_ne (fun z => absurd (Heap.lt_size e) (by rw [z]; exact Nat.not_lt.mpr hge)), upd_ne (fun z => by rw [z, hT] at n; cases n)]
        exact n
      · by_cases z : b = P
        · subst z; exact ⟨_, Heap.get?_push_of_some _ htb⟩
        · exact ⟨o, k2 b o z e⟩
      · by_cases z : b = P
        · subst z
          rw [hT] at e; cases e
          exact ⟨_, eP⟩
        · exact ⟨#[], by rw [old b _ z e]; simp⟩
      · obtain ⟨o, es, ep, e, r⟩ := hm
        exact ⟨o, es, ep, k2 _ o (fun z => by have n := I.free; rw [z, hT] at n; cases n) e, r⟩
      · by_cases z1 : b = c'
        · subst z1
          rw [upd_same] at e; cases e
          refine CodeE.ok ?_
          obtain ⟨c2, o, vs, t, e1, e2, r⟩ := hrec
          exact ⟨c2, o, vs, t, e1, Heap.get?_push_of_some _ e2, r⟩
        · rw [upd_ne z1] at e
          by_cases z2 : b = P
          · subst z2
            rw [upd_same] at e; cases e
            exact Heap.get?_push_of_some _ htb
          · rw [upd_ne z2] at e
            refine (I.hok b u e).stay (fun d v hd q => k2 d v ?_ q) (fun d q => old d _ (fun z => by rw [z, hT] at q; cases q) q) fun d xs q => old d _ (fun z => by rw [z, hT] at q; cases q) q
            rcases hd with z | z
            · rw [z]; exact z2
            · intro z3; rw [z3, hT] at z; cases z
    refine h _ c' ctv _ _ J (by rw [← hO]; exact Heap.get?_push_size _ rfl) ?_ (I.notStack hsz) upd_same ⟨_, eP, ?_, fun p2 cv z => ?_⟩ (fun b o n e => old b o n e)
    · rw [upd_ne (Nat.ne_of_gt hlt), upd_ne (fun z => by rw [z, hT] at hf0; cases hf0)]
      exact hf0
    · have := TriplesOk_snoc pos.line pos.col (.ref c') ps.toList tr
      simpa using this
    · have z' : codeAmong p2 (ps.toList ++ [rawInt pos.line, rawInt pos.col, .ref c']) = some cv := by simpa using z
      rcases among_snoc p2 pos (.ref c') cv ps.toList tr z' with y | y
      · obtain ⟨d, e1, e2, e3⟩ := hcs p2 cv y
        exact ⟨d, e1, e2, old d _ e2 e3⟩
      · exact ⟨c', y, nc, upd_same⟩
end
end L2
set_option Elab.async false
set_option linter.all false
set_option maxRecDepth 100000
set_option maxHeartbeats 1000000
namespace L2
open PySem PySem.Spec PyProof.Rows
def cxLam (CX : CXT) (P : Program) (w : World) (K : PySem.W.Frag) (mg : Str → Option Value) (base : Heap) (N : List Str) (qual : Str) (scope : Scope) (f : Addr) (cd : Value) (cl : List (Str × Addr)) (A : Around) (outer : List Env) (s : Shared) (H : Hp) (E : XK) : Cx where
  prog := P
  w := w
  K := K
  mg := mg
  base := base
  A := A.deeper (PySem.W.envX qual scope s.heap.objs.size f cd cl)
  N := N
  s₀ := s
  H₀ := H
  env := PySem.W.envX qual scope s.heap.objs.size f cd cl
  outer := outer
  stack := PySem.W.envX qual scope s.heap.objs.size f cd cl :: outer
  ex := []
  calm := true
  fn := fun _ => false
  pn := []
  xe := fun e s' => wpAny (model P w) (A.deeper (PySem.W.envX qual scope s.heap.objs.size f cd cl)) (leaving (PySem.W.envX qual scope s.heap.objs.size f cd cl) e) (fun _ s'' => CX outer H s E e s'') (fun e' s'' => CX outer H s E e' s'') s'
structure LamScope (sc : Scope) : Prop where
  kind : sc.kind = .function
  co : sc.isCoroutine = false
  gen : sc.isGenerator = false
  nocell : ∀ x ∈ sc.names, x.2 ≠ .cell
structure Caps (base : Heap) (N : List Str) (scope : Scope) (cl : List (Str × Addr)) (σ : St) : Prop where
  inj : ∀ x y c, cl.lookup x = some c → cl.lookup y = some c → x = y
  has : ∀ x, scope.names.lookup x = some .free → ∃ c, cl.lookup x = some c
  cell : ∀ x c, cl.lookup x = some c → ∃ v, base.IsCell c v
  val : ∀ (i : Nat) (x : Str) (v : V), N[i]? = some x → σ[i]? = some (some v) → ∃ c u, scope.names.lookup x = some .free ∧ cl.lookup x = some c ∧ base.IsCell c (some u) ∧ RelV v u
  len : σ.length = N.length
section
variable {CX : CXT} {P : Program} {w : World} {K : PySem.W.Frag} {mg : Str → Option Value} {base : Heap} {k : Nat} {f c : Addr} {qual : Str} {params : Arguments} {body : Expr} {scope : Scope} {cl : List (Str × Addr)} {pm ctv : Value} {N : List Str} {σ : St} {sp : Sp}
theorem lam_fn (ho : base.get? f = some (lamObj qual params body scope cl pm c ctv)) (S : LamScope scope) (Cp : Caps base N scope cl σ) (len : ∀ vs H Q E, sp vs H Q E → vs = []) (hcd : ∀ H Q E, sp [] H Q E → H c = some (CodeE c qual))
    (hbody : ∀ (A : Around) (outer : List Env) (s : Shared) (H : Hp) (Q : VK) (E : XK), Room k (A.deeper (PySem.W.envX qual scope s.heap.objs.size f (.ref c) cl)) → sp [] H Q E →
      ∃ t, PE (cxLam CX P w K mg base N qual scope f (.ref c) cl A outer s H E) body t ∧ t σ H Q) :
    FnOk P w K mg base CX (k + 1) f (PySem.W.kla_fn "<lambda>" qual params body scope cl pm (.ref c) ctv) [] sp := by
  refine ⟨fun vs H Q E h => by rw [len vs H Q E h]; rfl, fun A outer s H args us vs Q E hr e0 hb r hsp => ?_⟩
  obtain rfl := len _ _ _ _ hsp
  have lim : s.heap.NoLimit := e0.mod.nolimit.keeps fun b o e => (e0.bs b o e).1
  have hC := hcd H Q E hsp
  have rcd : s.heap.CodeRec (.ref c) qual := (e0.hok c _ hC).1
  refine PySem.W.kla_callFunE hr.depth (e0.bs _ _ ho).1 rfl S.co S.gen rfl rcd (hb _ _ _ _ ?_)
  refine wpAny_newFunctionEnv S.nocell (fun x hx => ?_) (fun h1 hns hsb => ?_) S.kind
  · exact absurd (show x ∈ ([] : List (Str × Value)) from hx) (by simp)
  have hk : ∀ b o, s.heap.get? b = some o → h1.get? b = some o := fun b o e => (hsb.2 b (Nat.ne_of_lt (Heap.lt_size e))).trans (Heap.get?_push_of_some _ e)
  refine ⟨lim.keeps hk, ?_⟩
  show codeAny _ _ (.expr body (PySem.W.envX qual scope s.heap.objs.size f (.ref c) cl)) _ _
  obtain ⟨t, ht, hq⟩ := hbody A outer s H Q E (hr.deeper _) hsp
  have cellH : ∀ x d v, cl.lookup x = some d → base.IsCell d v → h1.IsCell d v ∧ H d = none := fun x d v _ ⟨o, e, z⟩ => ⟨⟨o, hk _ _ (e0.bs _ _ e).1, z⟩, (e0.bs _ _ e).2⟩
  have I : Inv (cxLam CX P w K mg base N qual scope f (.ref c) cl A outer s H E) [] σ H { s with heap := h1, toks := s.toks + (([] : List Str).zip us).length } := by
    have noA : ∀ b : Addr, b ∉ (cxLam CX P w K mg base N qual scope f (.ref c) cl A outer s H E).ex := fun b z => absurd (show b ∈ ([] : List Addr) from z) (by simp)
    refine ⟨⟨e0.mod, S.kind, rfl, rfl, Nat.le_refl _, Cp.inj, fun y hy => ?_, fun y d z _ => ?_, fun _ => hr.hd, Around.frames_deeper e0.frames, .inr ⟨rfl, rfl⟩, fun b z => absurd z (noA b), e0.bs, e0.bsz, fun b _ _ => noA b, fun b z => absurd z (noA b), e0.funs, e0.frf⟩,
      rfl, e0.bare, Un.kept hk, ⟨_, hns, fun i y v h1 h2 h3 => ?_⟩, fun y d h => ?_, e0.hok.fresh (Nat.le_refl _), fun y d h => ?_, fun p hp => absurd (show p ∈ ([] : List (Addr × Obj)) from hp) (by simp), e0.hok.kept hk, Cp.len⟩
    · have hy : scope.names.lookup y = some .cell ∨ scope.names.lookup y = some .free := hy
      rcases hy with hy | hy
      · exact absurd rfl (S.nocell _ (PySem.mem_of_lookup hy))
      · exact Cp.has y hy
    · exact absurd (show false = true from z) (by decide)
    · obtain ⟨d, u, k1, k2, k3, k4⟩ := Cp.val i y v h1 h2
      exact ⟨u, k4, .inr ⟨.inr k1, d, k2, (cellH y d _ k2 k3).1⟩⟩
    · obtain ⟨v, z⟩ := Cp.cell y d h
      exact ⟨v, (cellH y d _ h z).1⟩
    · obtain ⟨v, z⟩ := Cp.cell y d h
      exact (cellH y d _ h z).2
  refine PySem.W.kla_codeExpr (wpAny_mono (ht [] _ σ H Q I hq) (fun u s' hs => ?_) fun e s' hs => hs)
  obtain ⟨v, H', J, rv, q⟩ := hs
  exact ⟨v, H', J.os, J.bare, J.base, J.hok, rv, q⟩
end
theorem passL {P : Program} {w : World} {K : PySem.W.Frag} {mg : Str → Option Value} {base : Heap} {N : List Str} {qual : Str} {scope : Scope} {f : Addr} {cd : Value} {cl : List (Str × Addr)} {A : Around} {outer : List Env} {s : Shared} {H : Hp} {E : XK} :
    Passes (CXE P w) (cxLam (CXE P w) P w K mg base N qual scope f cd cl A outer s H E) E := by
  intro pins σ H1 s1 e s2 I h
  obtain ⟨ea, C, dx, tb, H0, H2, rfl, os, bare, un, hok, e1, ht, sx, n0, q⟩ := h
  have J : Inv (cxLam (CXE P w) P w K mg base N qual scope f cd cl A outer s H E) pins σ H2 s2 := I.call' (ch := []) os un hok bare fun b z => absurd z (by simp)
  refine leave_ok (X := cxLam (CXE P w) P w K mg base N qual scope f cd cl A outer s H E) rfl rfl J e1 ht fun s3 T H3 J3 e3 eT sx3 => ?_
  exact ⟨ea, C, dx, .ref T, H0, H3, rfl, J3.os, J3.bare, J3.base, J3.hok, e3, .inr ⟨T, rfl, eT⟩, fun b o hb z => sx3 b o hb (sx b o hb z), n0, q⟩
end L2
set_option Elab.async false
set_option linter.all false
set_option maxRecDepth 100000
set_option maxHeartbeats 1000000
namespace L2
open PySem PySem.Spec PyProof.Rows
def lcl (env : Env) : List (Str × NameKind) → List (Str × Addr) → List (Str × Addr)
  | [], acc => acc
  | (x, k) :: r, acc => if (k == .free) = true then lcl env r ((x, (env.cells.lookup x).getD 0) :: acc) else lcl env r acc
theorem forIn_cl {env : Env} {f : Str × NameKind → List (Str × Addr) → Sem (ForInStep (List (Str × Addr)))} (hf : ∀ x k cs, f (x, k) cs = if (k == .free) = true then (do let c ← cellOf env x; pure (.yield ((x, c) :: cs))) else pure (.yield cs)) :
    ∀ (names : List (Str × NameKind)) (acc : List (Str × Addr)), (∀ y ∈ names, y.2 = .free → ∃ c, env.cells.lookup y.1 = some c) → forIn names acc f = pure (lcl env names acc)
  | [], acc, _ => by simp [lcl]
  | (x, k) :: r, acc, h => by
    rw [List.forIn_cons, hf]
    unfold lcl
    by_cases hk : (k == .free) = true
    · obtain ⟨c, e⟩ := h (x, k) (.head _) (eq_of_beq hk)
      have e : env.cells.lookup x = some c := e
      have e2 : cellOf env x = pure c := by unfold cellOf; rw [e]
      rw [if_pos hk, if_pos hk, e2, pure_bind, pure_bind, e]
      exact forIn_cl hf r _ fun y hy => h y (.tail _ hy)
    · rw [if_neg hk, if_neg hk, pure_bind]
      exact forIn_cl hf r _ fun y hy => h y (.tail _ hy)
theorem closure_eq {scope : Scope} {env : Env} (h : ∀ y ∈ scope.names, y.2 = .free → ∃ c, env.cells.lookup y.1 = some c) : closureFor scope env = pure (lcl env scope.names []) := by
  have e := forIn_cl (env := env) (f := fun x cs => if (x.2 == .free) = true then (do let c ← cellOf env x.1; pure (.yield ((x.1, c) :: cs))) else pure (.yield cs)) (fun _ _ _ => rfl) scope.names [] h
  show (forIn scope.names [] _ >>= fun cs => pure cs) = _
  rw [bind_pure]
  exact e
theorem lcl_sound {env : Env} : ∀ (names : List (Str × NameKind)) (acc : List (Str × Addr)), (∀ y ∈ names, y.2 = .free → ∃ c, env.cells.lookup y.1 = some c) → (∀ x c, acc.lookup x = some c → env.cells.lookup x = some c) →
    ∀ x c, (lcl env names acc).lookup x = some c → env.cells.lookup x = some c
  | [], acc, _, ha => ha
  | (x, k) :: r, acc, h, ha => by
    unfold lcl
    by_cases hk : (k == .free) = true
    · rw [if_pos hk]
      obtain ⟨c, e⟩ := h (x, k) (.head _) (eq_of_beq hk)
      have e : env.cells.lookup x = some c := e
      refine lcl_sound r _ (fun y hy => h y (.tail _ hy)) fun y d q => ?_
      rw [List.lookup_cons] at q
      split at q
      · rename_i z
        rw [eq_of_beq z, e]
        rw [e] at q
        exact q
      · exact ha y d q
    · rw [if_neg hk]
      exact lcl_sound r _ (fun y hy => h y (.tail _ hy)) ha
theorem lcl_acc {env : Env} {x : Str} : ∀ (names : List (Str × NameKind)) (acc : List (Str × Addr)), (acc.lookup x).isSome = true → ((lcl env names acc).lookup x).isSome = true
  | [], acc, h => h
  | (y, k) :: r, acc, h => by
    unfold lcl
    split
    · refine lcl_acc r _ ?_
      rw [List.lookup_cons]
      split
      · rfl
      · exact h
    · exact lcl_acc r _ h
theorem lcl_has {env : Env} {x : Str} : ∀ (names : List (Str × NameKind)) (acc : List (Str × Addr)), (x, NameKind.free) ∈ names → ((lcl env names acc).lookup x).isSome = true
  | (y, k) :: r, acc, h => by
    unfold lcl
    rcases List.mem_cons.mp h with e | e
    · cases e
      rw [if_pos (show (NameKind.free == NameKind.free) = true by decide)]
      refine lcl_acc r _ ?_
      rw [List.lookup_cons, beq_self_eq_true]
      rfl
    · split
      · exact lcl_has r _ e
      · exact lcl_has r _ e
def capt (fm : List Nat) (σ : St) : St := fm.map fun j => σ.getD j none
theorem caps_of {X : Cx} {pins : List (Addr × Obj)} {σ : St} {H : Hp} {s : Shared} {N : List Str} {scope : Scope} {fm : List Nat} (I : Inv X pins σ H s) (hfn : ∀ x, X.fn x = true) (hfr : ∀ y ∈ scope.names, y.2 = .free → X.env.kindOf y.1 = some .cell) (hfm : fm.length = N.length)
    (hN : ∀ (i : Nat) (x : Str), N[i]? = some x → scope.names.lookup x = some .free ∧ ∃ j, fm[i]? = some j ∧ X.N[j]? = some x) : Caps (bigB s.heap H X.stack) N scope (lcl X.env scope.names []) (capt fm σ) := by
  have hc : ∀ y ∈ scope.names, y.2 = .free → ∃ c, X.env.cells.lookup y.1 = some c := fun y hy hk => I.ok.has y.1 (.inl (hfr y hy hk))
  have sound : ∀ x c, (lcl X.env scope.names []).lookup x = some c → X.env.cells.lookup x = some c := lcl_sound scope.names [] hc fun x c e => by cases e
  have cellB : ∀ x c v, X.env.cells.lookup x = some c → s.heap.IsCell c v → (bigB s.heap H X.stack).IsCell c v := fun x c v e ⟨o, ho, hd⟩ => by
    refine ⟨o, bigB_get ho (I.freeC x c e) fun hm => ?_, hd⟩
    rcases List.mem_cons.mp (I.stkSub c hm) with z | z
    · exact I.cne x c e z
    · obtain ⟨_, o2, ho2, _⟩ := I.ok.funs.mem z
      exact absurd (Nat.lt_of_lt_of_le (Heap.lt_size ho2) (I.ok.cab x c (hfn x) e)) (Nat.lt_irrefl _)
  refine ⟨fun x y c h1 h2 => I.ok.inj x y c (sound x c h1) (sound y c h2), fun x hx => ?_, fun x c e => ?_, fun i x v h1 h2 => ?_, by unfold capt; rw [List.length_map]; exact hfm⟩
  · exact Option.isSome_iff_exists.mp (lcl_has scope.names [] (PySem.mem_of_lookup hx))
  · obtain ⟨v, z⟩ := I.cell x c (sound x c e)
    exact ⟨v, cellB x c v (sound x c e) z⟩
  · obtain ⟨fr, j, e1, e2⟩ := hN i x h1
    have e3 : σ[j]? = some (some v) := by
      unfold capt at h2
      rw [List.getElem?_map, e1] at h2
      have h2 : some (σ.getD j none) = some (some v) := h2
      have h3 := Option.some.inj h2
      rw [List.getD_eq_getElem?_getD] at h3
      cases q : σ[j]? with
      | none => rw [q] at h3; cases h3
      | some a => rw [q] at h3; exact congrArg some h3
    obtain ⟨c, e4⟩ := Option.isSome_iff_exists.mp (lcl_has (env := X.env) scope.names [] (PySem.mem_of_lookup fr))
    have e5 := sound x c e4
    have kd : X.env.kindOf x = some .cell := hfr (x, .free) (PySem.mem_of_lookup fr) rfl
    obtain ⟨m, hn, hl⟩ := I.loc
    obtain ⟨u, r, l⟩ := hl j x v e2 e3 (.inr (.inl kd))
    refine ⟨c, u, fr, e4, cellB x c _ e5 ?_, r⟩
    rcases l with ⟨k, _⟩ | ⟨_, c2, k2, z⟩
    · rw [kd] at k; cases k
    · rw [e5] at k2; cases k2; exact z
end L2
set_option Elab.async false
set_option linter.all false
set_option maxRecDepth 100000
set_option maxHeartbeats 1000000
namespace L2
open PySem PySem.Spec PyProof.Rows
section
variable {X : Cx} {CX : CXT} {k : Nat} {f : Addr} {fd : FuncData} {ps : List Str} {sp : Sp} {E : XK} {x : Str} {p pos : Pos}
theorem run_big {pins : List (Addr × Obj)} {σ : St} {H : Hp} {s : Shared} {Q : VK} {us : List Value} {vs : List V} (F : FnOk X.prog X.w X.K X.mg (bigB s.heap H X.stack) CX k f fd ps sp) (hr : Room k X.A) (hb : Binds X.K fd ps []) (hx : Passes CX X E)
    (I : Inv X pins σ H s) (r : Vals vs us) (h : sp vs H Q E) : wpAny (model X.prog X.w) X.A (call (.ref f) us) (EP X pins σ Q) X.xe s := by
  have hl : (us ++ []).length = ps.length := by rw [List.append_nil, ← r.length]; exact F.len _ _ _ _ h
  have hbt := hb s us I.kIn hl
  rw [List.append_nil] at hbt
  refine wpAny_call (codeAny_mono (F.run X.A X.stack s H ⟨us, []⟩ us vs Q E hr I.env0.big hbt r h) fun r s' hq => ?_)
  cases r with
  | error e => exact hx pins σ H s e s' I hq
  | ok fl =>
    cases fl with
    | ret u => exact I.after hq
    | next => exact False.elim hq
    | brk => exact False.elim hq
    | cont => exact False.elim hq
def tCallV (i : Nat) (f : Addr) (sp : Sp) (E : XK) : TE := fun σ H Q => σ[i]? = some (some (.ref f)) ∧ sp [] H Q E
theorem pe_callL {i : Nat} (G : FnOk X.prog X.w X.K X.mg X.base CX k f fd [] sp) (hr : Room k X.A) (ho : X.base.get? f = some { cls := .type "function", data := .func fd }) (hb : Binds X.K fd [] []) (hx : Passes CX X E) (hN : X.N[i]? = some x) (hv : Vis X.env.scope x)
    (hd : (x == ("__debug__" : Str)) = false := by decide) (hcd : (x == ("__classdict__" : Str)) = false := by decide) : PE X (.Call (.Name x p) [] [] pos) (tCallV i f sp E) := by
  intro pins s σ H Q I h
  obtain ⟨e, h⟩ := h
  refine wpAny_Call_Name_kw (thn (pe_var hN hv hd hcd pins s σ H (fun v H' => v = .ref f ∧ H' = H) I ⟨_, e, rfl, rfl⟩) fun u s1 ⟨v, H1, I1, r, ev, eH⟩ => ?_)
  subst ev eH
  obtain rfl : u = Value.ref f := r
  refine PySem.W.callWith_of (P := fun h => h.get? f = some { cls := .type "function", data := .func fd }) rfl (fun h q => ⟨.frame, .inl rfl, (PySem.W.Looks.ld (part := none) q).andThen .now⟩) (evalArgs_nil3 ⟨I1.bk _ _ ho, ?_⟩)
  exact run_fn (us := []) (vs := []) (dvs := []) G hr hb .nil hx I1 .nil h
def wordE (K : PySem.W.Frag) (W : Addr) (Q : VK) : XK := fun C d H0 => ∃ (Ca dx : Addr) (ww : Str), C = .ref Ca ∧ d = some dx ∧ H0 dx = some (.xd [("word", .str ww)]) ∧ XSub K Ca W ∧ XKl K Ca ∧ ∀ H' r, Same H0 H' → H' r = none → Q (.ref r) (upd H' r (.tup [.str ww]))
def toldQ (Q : VK) : VK := fun v H2 => [V.str "told", v].length ≤ sizeLine ∧ ∀ r, H2 r = none → Q (.ref r) (upd H2 r (.tup [.str "told", v]))
theorem toldQ.mk {Q : VK} {v : V} {H2 : Hp} (h : ∀ r, H2 r = none → Q (.ref r) (upd H2 r (.tup [.str "told", v]))) : toldQ Q v H2 := ⟨Nat.le_trans (show 2 ≤ 100 by decide) (by decide), h⟩
def spWord (K : PySem.W.Frag) (W f : Addr) (spl : Sp) : Sp := fun vs H Q _ => vs = [.ref f] ∧ spl [] H (toldQ Q) (wordE K W Q)
def tWord (K : PySem.W.Frag) (W P : Addr) (q : Str) (fm : List Nat) (t : XK → TE) : TE := fun σ H Q => TabOk H P q ∧ ∀ H1, TabOk H1 P q → SameP P H H1 → t (wordE K W Q) (capt fm σ) H1 (toldQ Q)
theorem pe_word {st : Stmt} {y : Str} {fw W c P : Addr} {fdw : FuncData} {kl kw : Nat} {params : Arguments} {body : Expr} {scope : Scope} {lpos : Pos} {N : List Str} {fm : List Nat} {t : XK → TE} (Dw : Df X.K X.mg x st [y] fw fdw)
    (Gw : ∀ (base : Heap) (f : Addr) (fdl : FuncData) (spl : Sp), base.get? f = some { cls := .type "function", data := .func fdl } → Binds X.K fdl [] [] → FnOk X.prog X.w X.K X.mg base (CXE X.prog X.w) (kl + 1) f fdl [] spl →
      FnOk X.prog X.w X.K X.mg base (CXE X.prog X.w) kw fw fdw [y] (spWord X.K W f spl))
    (hr : Room kw X.A) (hcode : X.env.code = .ref c) (C : PySem.W.CodeHd X.base c P) (B : BMain X.mg X.base) (hfn : ∀ x, X.fn x = true)
    (S : LamScope scope) (hfr : ∀ y ∈ scope.names, y.2 = .free → X.env.kindOf y.1 = some .cell) (hfm : fm.length = N.length) (hN : ∀ (i : Nat) (x : Str), N[i]? = some x → scope.names.lookup x = some .free ∧ ∃ j, fm[i]? = some j ∧ X.N[j]? = some x)
    (hbl : ∀ (base : Heap) (f c' : Addr) (A : Around) (outer : List Env) (s : Shared) (H : Hp) (E : XK), Room kl (A.deeper (PySem.W.envX (X.env.qual ++ "<lambda>") scope s.heap.objs.size f (.ref c') (lcl X.env scope.names []))) →
      PE (cxLam (CXE X.prog X.w) X.prog X.w X.K X.mg base N (X.env.qual ++ "<lambda>") scope f (.ref c') (lcl X.env scope.names []) A outer s H E) body (t E))
    (hx : Passes (CXE X.prog X.w) X E0) (hg : Gl X x := by rfl) (hdef : defaultsOf params X.env = ([], []) := by rfl)
    (hbind : ∀ (q : Str) (cl : List (Str × Addr)) (pm ctv : Value) (c' : Addr), bindArgs (PySem.W.kla_fn "<lambda>" q params body scope cl pm (.ref c') ctv) ⟨[], []⟩ = pure [] := by intro _ _ _ _ _; rfl)
    (hdb : (x == ("__debug__" : Str)) = false := by decide) : PE X (.Call (.Name x p) [.Lambda params body scope lpos] [] pos) (tWord X.K W P (X.env.qual ++ "<lambda>") fm t) := by
  intro pins s σ H Q I h
  obtain ⟨T, h⟩ := h
  have hc : ∀ y ∈ scope.names, y.2 = .free → ∃ c, X.env.cells.lookup y.1 = some c := fun y hy hk => I.ok.has y.1 (.inl (hfr y hy hk))
  refine wpAny_Call_Name_kw (ld_glob I hg Dw.mg ?_ hdb)
  refine PySem.W.callWith_K (h₀ := X.base) I.ok.mod.kin Dw.F.kp ?_ (by rfl) (by rfl)
  show wpAny _ _ (spliced ((false, eval (.Lambda params body scope lpos) X.env) :: backTo pos (starEach [] X.env))) _ _ s
  refine Calls.spliced_cons (lam_make I hdef (closure_eq hc) hcode C B T fun f c' ctv H1 s1 I1 ho nf nfr hC T1 sp1 => ?_)
  refine Calls.spliced_nil ⟨I1.kIn, ?_⟩
  have hob : (bigB s1.heap H1 X.stack).get? f = some (lamObj (X.env.qual ++ "<lambda>") params body scope (lcl X.env scope.names []) ((X.mg "__name__").getD .none) c' ctv) := bigB_get ho nf nfr
  have hbl' : Binds X.K (PySem.W.kla_fn "<lambda>" (X.env.qual ++ "<lambda>") params body scope (lcl X.env scope.names []) ((X.mg "__name__").getD .none) (.ref c') ctv) [] [] := .all fun us hl => by
    obtain rfl := List.eq_nil_of_length_eq_zero hl
    exact hbind _ _ _ _ _
  have L := lam_fn (CX := CXE X.prog X.w) (P := X.prog) (w := X.w) (K := X.K) (mg := X.mg) (k := kl) (sp := fun vs H Q E => vs = [] ∧ H c' = some (CodeE c' (X.env.qual ++ "<lambda>")) ∧ t E (capt fm σ) H Q) hob S (caps_of I1 hfn hfr hfm hN) (fun _ _ _ _ z => z.1) (fun _ _ _ z => z.2.1)
    fun A outer s H Q E hr z => ⟨t E, hbl _ f c' A outer s H E hr, z.2.2⟩
  exact run_big (E := E0) (Gw _ f _ _ hob hbl' L) hr Dw.b hx I1 (vs := [.ref f]) (.cons rfl .nil) ⟨rfl, rfl, hC, h H1 T1 sp1⟩
end
end L2
set_option Elab.async false
set_option linter.all false
set_option maxRecDepth 100000
set_option maxHeartbeats 1000000
namespace L2
open PySem PySem.Spec PyProof.Rows
theorem law_callT {P : Program} {w : World} {K : PySem.W.Frag} {mg mb : Str → Option Value} {CX : CXT} {k : Nat} {fa a : Addr} {fd : FuncData} {x : Str} {sp : Sp} {s₁ : Shared} {vs : List Value} {ns : List Int} {ts : List Addr}
    (KX : K.In s₁.heap) (hns : s₁.heap.Ns mainGlobals mg) (hb : s₁.heap.Ns builtinsNs mb) (hbb : ∀ x : Str, x ≠ "__name__" → mb x = bootBuiltins x) (hlim : s₁.heap.NoLimit) (hg : s₁.gens = #[])
    (ha : s₁.heap.get? a = some { cls := .type "list", data := .seq vs.toArray }) (hi : IntsAre vs ns) (hl : ns.length ≤ sizeLine) (hr : Room k callerA)
    (hT : ∀ P ∈ ts, s₁.heap.get? P = some (PySem.W.tabObj #[])) (hKT : ∀ P ∈ ts, K.lookup P = none) (hct : ∀ P ∈ ts, isCodeTable s₁.heap P) (BM : BMain mg s₁.heap)
    (F : ∀ base : Heap, K.In base → base.Ns mainGlobals mg → BMain mg base → FnOk P w K mg base CX k fa fd [x] sp) (hbind : ∀ (s : Shared) (u : Value), BindsTo s fd ⟨[u], []⟩ [(x, u)])
    (hsp : ∀ H : Hp, SqL K H a (ns.map V.int) → (∀ P ∈ ts, H P = some (.tbl #[])) → sp [.ref a] H (fun v _ => v = .bl true) fun _ _ _ => False)
    (hCX : ∀ H e s', CX [] H s₁ (fun _ _ _ => False) e s' → False) :
    codeAny (model P w) callerA (.call (.ref fa) ⟨[.ref a], []⟩) (fun r s' => r = .ok (.ret (.bool true)) ∧ OldK s₁.heap s'.heap ∧ s'.os = s₁.os ∧ AllBare s'.gens) s₁ := by
  have rv := vals_ints hi
  have lenV := hi.length
  have naT : a ∉ ts := fun z => by
    have := hT a z
    rw [ha] at this
    cases this
  have core : ∀ H : Hp, (∀ b, H b = none ∨ (b = a ∧ K.lookup a = none ∧ ∃ xs, H b = some (.frz { cls := .type "list", data := .seq vs.toArray } (.lst xs))) ∨ (b ∈ ts ∧ H b = some (.tbl #[]))) → SqL K H a (ns.map V.int) → (∀ P ∈ ts, H P = some (.tbl #[])) → HOk P w H s₁.heap →
      codeAny (model P w) callerA (.call (.ref fa) ⟨[.ref a], []⟩) (fun r s' => r = .ok (.ret (.bool true)) ∧ OldK s₁.heap s'.heap ∧ s'.os = s₁.os ∧ AllBare s'.gens) s₁ := by
    intro H hO hS hTs hok
    have base_of : ∀ {b : Addr} {o : Obj}, s₁.heap.get? b = some o → H b = none → (hidT s₁.heap H).get? b = some o := fun e n => hidT_get e n
    have noT : ∀ {b : Addr} {o : Obj}, s₁.heap.get? b = some o → (∀ n, o.data ≠ .seq vs.toArray n) → (∀ xs, o.data ≠ .fields xs) → H b = none := fun {b o} e d1 d2 => by
      rcases hO b with z | ⟨rfl, _, _, z⟩ | ⟨z, _⟩
      · exact z
      · rw [ha] at e; cases e
        exact absurd rfl (d1 _)
      · rw [hT b z] at e; cases e
        exact absurd rfl (d2 _)
    have nsK : ∀ {b : Addr} {m : Str → Option Value}, s₁.heap.Ns b m → (hidT s₁.heap H).Ns b m := fun {b m} ⟨o, es, ep, e, d, r⟩ => ⟨o, es, ep, base_of e (noT e (fun n z => by rw [d] at z; cases z) (fun xs z => by rw [d] at z; cases z)), d, r⟩
    have hKb : K.In (hidT s₁.heap H) := fun b o e => base_of (KX b o e) (by
      rcases hO b with z | ⟨rfl, z, _⟩ | ⟨z, _⟩
      · exact z
      · rw [z] at e; cases e
      · rw [hKT b z] at e; cases e)
    have hM : Mod K mg (hidT s₁.heap H) := ⟨hKb, nsK hns, ⟨mb, nsK hb, hbb⟩, let ⟨mc, h1, h2⟩ := hlim; ⟨mc, nsK h1, h2⟩⟩
    have hBM : BMain mg (hidT s₁.heap H) := by
      obtain ⟨bm, ob, e1, e2, e3, e4, e5, e6⟩ := BM.ex
      exact ⟨bm, ob, e1, e2, base_of e3 (noT e3 (fun n z => by rw [e6] at z; cases z) (fun xs z => by rw [e6] at z; cases z)), e4, e5, e6⟩
    have e0 : Env0 P w K mg (hidT s₁.heap H) callerA [] s₁ H := ⟨rfl, hM, fun b o e => of_hidT e, Nat.le_of_eq (hidT_size _ _), trivial, fun b hb => absurd (show b ∈ ([] : List Addr) from hb) (by simp), hok, .of_eq hg⟩
    refine codeAny_mono ((F _ hKb (nsK hns) hBM).run callerA [] s₁ H ⟨[.ref a], []⟩ [.ref a] [.ref a] _ _ hr e0 (hbind s₁ (.ref a)) (.cons rfl .nil) (hsp H hS hTs)) fun r s' h => ?_
    cases r with
    | error e => exact (hCX H e s' h).elim
    | ok fl =>
      cases fl with
      | next => exact False.elim h
      | brk => exact False.elim h
      | cont => exact False.elim h
      | ret u =>
        obtain ⟨v, H', os, bare, un, hok', r', q⟩ := h
        have q' : v = .bl true := q
        subst q'
        obtain rfl : u = Value.bool true := r'
        refine ⟨rfl, ⟨fun b o e => ?_, fun b o e => un.there b o e (by simp)⟩, os, bare⟩
        rcases hO b with z | ⟨rfl, _, xs, z⟩ | ⟨zt, z⟩
        · exact .inl (un.keep b o e z (by intro z; exact absurd (show b ∈ ([] : List Addr) from z) (by simp)) (by simp))
        · have z2 := un.frzs b _ _ z
          obtain ⟨e1, _⟩ := hok b _ z
          obtain ⟨e2, _⟩ := hok' b _ z2
          rw [e] at e1; cases e1
          exact .inl e2
        · obtain ⟨more, z2⟩ := un.tbls b _ z
          have e1 := hok' b _ z2
          rw [hT b zt] at e; cases e
          exact .inr (.inl ⟨hct b zt, rfl, #[], more, rfl, e1⟩)
  have okT : ∀ (H : Hp) (b : Addr), b ∈ ts → ObjOk P w H s₁.heap b (.tbl #[]) := fun H b hb => hT b hb
  cases hk : K.lookup a with
  | some o =>
    have e := KX a o hk
    rw [ha] at e
    cases e
    refine core (fun b => if b ∈ ts then some (.tbl #[]) else none) (fun b => ?_) (.inr ⟨_, vs.toArray, _, hk, rfl, rfl, rfl, by rw [List.size_toArray, lenV]; exact hl, by simpa using rv⟩) (fun b hb => if_pos hb) (fun b u z => ?_)
    · by_cases hb : b ∈ ts
      · exact .inr (.inr ⟨hb, if_pos hb⟩)
      · exact .inl (if_neg hb)
    · by_cases hb : b ∈ ts
      · have z' := (if_pos hb).symm.trans z
        cases z'
        exact okT _ b hb
      · have z' := (if_neg hb).symm.trans z
        cases z'
  | none =>
    refine core (fun b => if b ∈ ts then some (.tbl #[]) else if b = a then some (.frz { cls := .type "list", data := .seq vs.toArray } (.lst (ns.map V.int))) else none) (fun b => ?_) (.inl (.inr ⟨{ cls := .type "list", data := .seq vs.toArray }, ?_⟩)) (fun b hb => if_pos hb) (fun b u z => ?_)
    · by_cases hb : b ∈ ts
      · exact .inr (.inr ⟨hb, if_pos hb⟩)
      · by_cases hb2 : b = a
        · exact .inr (.inl ⟨hb2, hk, _, (if_neg hb).trans (if_pos hb2)⟩)
        · exact .inl ((if_neg hb).trans (if_neg hb2))
    · exact (if_neg naT).trans (if_pos rfl)
    · by_cases hb : b ∈ ts
      · have z' := (if_pos hb).symm.trans z
        cases z'
        exact okT _ b hb
      · have z := (if_neg hb).symm.trans z
        by_cases hb2 : b = a
        · have z' := (if_pos hb2).symm.trans z
          cases z'
          subst hb2
          exact ⟨ha, by rw [List.length_map]; exact hl, vs, _, rv, ha⟩
        · have z' := (if_neg hb2).symm.trans z
          cases z'
theorem walk_ofT {l : PySem.W.OpenLaw} {n k : Nat} {q : Program} {loose : List Str} {XP : (Str → Option Value) → Heap → Prop} {YP : World → Heap → Prop} {d : DefRec} {K : Params → PySem.W.Frag} {CX : World → CXT} {sp : World → Sp} {x : Str} {tabs : List (Addr × Addr)}
    (hn : l.most = some n) (hn2 : n ≤ sizeLine) (hdf : d.params.defaults = []) (hr : Room k callerA)
    (hY : ∀ (w : World) (h : Heap), YP w h → (K w.params).In h) (hT : ∀ (w : World) (h : Heap), YP w h → ∀ q ∈ tabs, h.get? q.2 = some (PySem.W.tabObj #[]))
    (hC : ∀ (w : World) (h : Heap), (K w.params).In h → ∀ q ∈ tabs, PySem.W.CodeHd h q.1 q.2) (hK : ∀ (w : World), ∀ q ∈ tabs, (K w.params).lookup q.2 = none)
    (F : ∀ (w : World) (mg : Str → Option Value) (fa : Addr) (h : Heap), (K w.params).In h → h.Ns mainGlobals mg → mg d.name = some (.ref fa) →
      ∃ fd : FuncData, (∀ (s : Shared) (u : Value), BindsTo s fd ⟨[u], []⟩ [(x, u)]) ∧
        ∀ base : Heap, (K w.params).In base → base.Ns mainGlobals mg → BMain mg base → FnOk l.prog w (K w.params) mg base (CX w) k fa fd [x] (sp w))
    (hsp : ∀ (w : World) (H : Hp) (a : Addr) (ns : List Int), ns.length ≤ n → SqL (K w.params) H a (ns.map V.int) → (∀ q ∈ tabs, H q.2 = some (.tbl #[])) → sp w [.ref a] H (fun v _ => v = .bl true) fun _ _ _ => False)
    (hCX : ∀ (w : World) (H : Hp) (s : Shared) (e : Value) (s' : Shared), CX w [] H s (fun _ _ _ => False) e s' → False) :
    PySem.W.WalkO q loose XP YP l.row.toRowW d [] (fun f vs => PySem.call f vs) := by
  refine Att.attach_call hn hdf fun w s₀ s₁ mg mb fa o pm cd doc a vs ns G Y ho hd hcd hmg hobj hints hlen hg => ?_
  have KX := hY w _ Y
  obtain ⟨fd, hb, hF⟩ := F w mg fa _ KX G.T.g hmg
  have tb : ∀ P ∈ tabs.map (·.2), ∃ c, (c, P) ∈ tabs := fun P hP => by
    obtain ⟨⟨c, P'⟩, hq, rfl⟩ := List.mem_map.mp hP
    exact ⟨c, hq⟩
  refine law_callT (ts := tabs.map (·.2)) KX G.T.g G.T.b G.T.builtins G.T.nolimit hg hobj hints (Nat.le_trans hlen hn2) hr (fun P hP => ?_) (fun P hP => ?_) (fun P hP => ?_) ⟨G.T.bmain⟩ hF hb (fun H hS hTs => hsp w H a ns hlen hS fun q hq => hTs q.2 (List.mem_map_of_mem hq)) fun H e s' => hCX w H s₁ e s'
  · obtain ⟨c, hq⟩ := tb P hP; exact hT w _ Y _ hq
  · obtain ⟨c, hq⟩ := tb P hP; exact hK w _ hq
  · obtain ⟨c, hq⟩ := tb P hP
    exact ((hC w _ KX _ hq).tab (hT w _ Y _ hq)).isCodeTable
end L2
set_option Elab.async false
set_option linter.all false
set_option maxRecDepth 100000
set_option maxHeartbeats 1000000
namespace L2
open PySem PySem.Spec PyProof.Rows
section
variable {X : Cx}
theorem op_le_str : OpR X (compareOp .LtE) (fun x y H Q => ∃ i j, x = .str i ∧ y = .str j ∧ Q (.bl (!(decide (j.cps.toList < i.cps.toList)))) H) := by
  intro pins s σ H x y v u Q I rx ry h
  obtain ⟨i, j, rfl, rfl, q⟩ := h
  obtain ⟨t, rfl⟩ := rx
  obtain ⟨t', rfl⟩ := ry
  exact PySem.P.le_str (fin_bl I q rfl)
end
theorem in_one (x : Str) (c : Nat) : (!(Builtin.Str.occurrences x ⟨#[c]⟩ 0 x.length 1).isEmpty) = decide (c ∈ x.cps.toList) := PySem.StrLaws.found_one x c
theorem lt_one (c d : Nat) : decide (([c] : List Nat) < [d]) = decide (c < d) := by
  refine decide_eq_decide.mpr ⟨fun h => ?_, fun h => ?_⟩
  · cases h with
    | rel h => exact h
    | cons h => cases h
  · exact .rel h
end L2
set_option Elab.async false
set_option linter.all false
set_option maxRecDepth 100000
set_option maxHeartbeats 1000000
namespace L2
open PySem PySem.Spec PyProof.Rows
section
variable {X : Cx}
theorem vals_from : ∀ (ys : List Str) (k : Nat), Vals (ys.map V.str) (strsFrom k ys)
  | [], _ => .nil
  | y :: r, k => .cons ⟨_, rfl⟩ (vals_from r (k + 1))
def rSplit : V → List V → Hp → VK → Prop := fun x vs H Q => ∃ z : Str, x = .str z ∧ vs = [.str " "] ∧ z.length ≤ 100000 ∧ ∀ l, H l = none → Q (.ref l) (upd H l (.lst ((Txt.split z " ").map V.str)))
theorem occ_many (z : Str) : (Builtin.Str.occurrences z " " 0 z.length (z.length + 1)).length ≤ z.length + 1 := StrLaws.occ_length_le ..
theorem mt_split : MtR X "str.split" rSplit := by
  intro pins s σ H x vs v us Q I rx rv h
  obtain ⟨z, rfl, rfl, hz, q⟩ := h
  obtain ⟨t, rfl⟩ := rx
  obtain ⟨u, rfl, ru⟩ := rv.one
  obtain ⟨t', rfl⟩ := ru
  have fin := q _ I.fresh
  have sl : sizeLine = 16777216 := sizeLine_eq
  have one : ∀ (e : Txt.split z " " = [z]), EP X pins σ Q (.ref s.heap.objs.size) { s with heap := s.heap.push { cls := .type "list", data := .seq #[.str z t] } } := fun e => by
    rw [e] at fin
    exact ⟨.ref _, _, I.lnew (t' := s.toks) (ys := [.str z]) (its := [.str z t]) (.cons ⟨t, rfl⟩ .nil) (by show 1 ≤ sizeLine; omega), rfl, fin⟩
  by_cases c : (decide (z.length < (" " : Str).length) || decide (Builtin.Str.strKind z < Builtin.Str.strKind (" " : Str))) = true
  · exact call_meets F.slot_str_split (typeIs_str s z t) F.entry_str_split (F.args_str_split_2 _ _) (meets_str_split_cannot_occur z " " t t' c) (one (by unfold Txt.split; rw [if_pos c]))
  · have c' := Bool.eq_false_iff.mpr c
    by_cases d : (Builtin.Str.occurrences z " " 0 z.length (z.length + 1)).isEmpty = true
    · exact call_meets F.slot_str_split (typeIs_str s z t) F.entry_str_split (F.args_str_split_2 _ _) (meets_str_split_not_found z " " t t' c' rfl d) (one (by unfold Txt.split; rw [if_neg c, if_pos d]))
    · have e : Txt.split z " " = Builtin.Str.partsBetween z (Builtin.Str.occurrences z " " 0 z.length (z.length + 1)) (" " : Str).length := by unfold Txt.split; rw [if_neg c, if_neg d]
      have hl : (Builtin.Str.partsBetween z (Builtin.Str.occurrences z " " 0 z.length (z.length + 1)) (" " : Str).length).length ≤ sizeLine := by
        rw [length_partsBetween]
        have := occ_many z
        omega
      rw [e] at fin
      refine call_meets F.slot_str_split (typeIs_str s z t) F.entry_str_split (F.args_str_split_2 _ _) (meets_str_split_sep z " " t t' c' rfl (Bool.eq_false_iff.mpr d) (by omega) hl) ?_
      exact ⟨.ref _, _, I.lnew (vals_from _ _) (by rw [List.length_map]; exact hl), rfl, fin⟩
theorem call_int_text : CallR X (.type "int") (fun xs H Q => ∃ x n, xs = [.str x] ∧ intText? x = some n ∧ x.length ≤ 640 ∧ Q (.int n) H) := by
  intro pins s σ H xs us Q I r h
  obtain ⟨x, n, rfl, h1, h2, q⟩ := h
  obtain ⟨u, rfl, t, rfl⟩ := vals1 r
  exact PySem.W.KIN.call_text h1 h2 ⟨.int n, H, I.tok _, ⟨_, rfl⟩, q⟩
theorem call_str_str : CallR X (.type "str") (fun xs H Q => ∃ x, xs = [.str x] ∧ Q (.str x) H) := by
  intro pins s σ H xs us Q I r h
  obtain ⟨x, rfl, q⟩ := h
  obtain ⟨u, rfl, t, rfl⟩ := vals1 r
  exact PySem.P.str_of_str ⟨.str x, H, I, ⟨_, rfl⟩, q⟩
end
def KD (P : Program) (K : PySem.W.Frag) (w : World) (d : Addr) (kvs : List (Key × V)) : Prop :=
  (d == sysModules) = false ∧ ∃ o es n vs, K.lookup d = some o ∧ o.ExactDict ∧ o.data = .dict es n ∧ KV kvs vs ∧ KeysOf (mixKind P w) es ∧ Pairs (mixKind P w) es.toList vs ∧ (vs.map (·.1)).Nodup
def tKGet (P : Program) (K : PySem.W.Frag) (w : World) (td ty : TE) : TE := fun σ H Q => td σ H fun x H1 => ∃ d kvs, x = .ref d ∧ KD P K w d kvs ∧ ty σ H1 fun y H2 => ∃ k, y = kV k ∧ Q ((valV kvs k).getD .non) H2
section
variable {X : Cx} {o e : Expr} {apos cpos : Pos} {td ty : TE}
theorem pe_kget (ho : PE X o td) (he : PE X e ty) (m : M1 X o "get" apos e cpos) : PE X (.Call (.Attribute o "get" apos) [e] [] cpos) (tKGet X.prog X.K X.w td ty) := by
  intro pins s σ H Q I h
  refine wpAny_Call_method m.base m.few m.line PySem.F.plainAttrs_dict PySem.F.slot_dict_get PySem.F.type_dict_get (thn (ho pins s σ H _ I h) fun u s1 ⟨x, H1, I1, rx, a, kvs, ex, kd, q1⟩ => ?_)
  subst ex
  obtain rfl : u = Value.ref a := rx
  obtain ⟨hd, ob, es, n, vs, lk, ex, ed, rel, r1, r2, r3⟩ := kd
  refine ⟨⟨ob, I1.kIn a ob lk, ex.1⟩, fun b q => ?_, ?_⟩
  · cases q
    exact ⟨ob, I1.kIn _ ob lk, ex.2.1⟩
  rw [m.trees]
  refine Calls.callWith_builtin rfl (Calls.evalArgs_plain (Calls.spliced_cons (thn (he pins s1 σ H1 _ I1 q1) fun iv s2 ⟨y, H2, I2, ry, k, ey, q2⟩ => Calls.spliced_nil ?_)))
  subst ey
  have dd : s2.heap.DictOf (mixKind X.prog X.w) a vs := ⟨ob, es, n, I2.kIn a ob lk, ex, ed, r1, r2, r3⟩
  refine call_meetsIn PySem.F.slot_dict_get dd.typeIs PySem.F.entry_dict_get (PySem.F.args_dict_get_2 _ _) (meets_dict_get (mixKind X.prog X.w) a (kV_is ry) hd) ⟨_, dd.mapOf, ⟨_, H2, I2.tok _, ?_, q2⟩⟩
  exact (rel.val k).getD rfl
end
section
variable {K : PySem.W.Frag} {p a : Addr} {xs : List V} {g : TG} {tt : TT} {te : TE} {σ0 : St} {H0 : Hp} {Q : Hp → Prop}
theorem blk_tup (Pv : Nat → St → Hp → Prop) (h0 : Pv 0 σ0 H0) (hl : ∀ i σ H, i ≤ xs.length → Pv i σ H → SqT K H a xs) (hs : ∀ i x σ H, xs[i]? = some x → Pv i σ H → BlkTurn p g tt te (Pv (i + 1)) x σ H) (hd : ∀ σ H, Pv xs.length σ H → Q H) :
    tBlk (Itt K a) p g tt te σ0 H0 Q := by
  refine ⟨fun i m σ H => m = xs.length - i ∧ i ≤ xs.length ∧ Pv i σ H, ⟨xs.length, by simp, Nat.zero_le _, h0⟩, ?_⟩
  rintro i m σ H ⟨rfl, hi, r⟩
  have q := hl i σ H hi r
  by_cases hlt : i < xs.length
  · refine .inr ⟨⟨xs, xs[i], q, by simp [hlt]⟩, Pv (i + 1), fun σ' H' r' => ⟨xs.length - (i + 1), by omega, rfl, hlt, r'⟩, fun x H' y => ?_⟩
    obtain ⟨e, y⟩ := y
    subst e
    exact hs i x σ _ (y xs q) r
  · have e : i = xs.length := by omega
    subst e
    exact .inl ⟨⟨xs, q, Nat.le_refl _⟩, hd σ H r⟩
end
theorem turn_all2 {K : PySem.W.Frag} {p T : Addr} {i j : Nat} {te : TE} {N : St → Hp → Prop} {x y : V} {σ : St} {H : Hp} (hs : SqT K H T [x, y]) (h : te ((σ.set i (some x)).set j (some y)) H fun v H4 => ∃ ys, H4 p = some (.lst ys) ∧ ys.length < sizeLine ∧ N ((σ.set i (some x)).set j (some y)) (upd H4 p (.lst (ys ++ [v])))) :
    BlkTurn p (gTup K 2 (gCons (gName i) (gCons (gName j) gNil))) tAll te N (.ref T) σ H :=
  ⟨T, _, rfl, hs, rfl, _, _, rfl, _, _, rfl, rfl, iteT (B := N ((σ.set i (some x)).set j (some y)) H) h⟩
theorem cut_to (xs : List V) (k : Nat) : cutV xs none (some (k : Int)) = xs.take k := by
  unfold cutV
  have e : HT.sIx xs.length xs.length (some (k : Int)) = min k xs.length := by
    unfold HT.sIx
    simp only
    split <;> omega
  rw [e]
  show (xs.drop 0).take (min k xs.length - 0) = xs.take k
  rw [List.drop_zero, Nat.sub_zero]
  by_cases h : k ≤ xs.length
  · rw [Nat.min_eq_left h]
  · rw [Nat.min_eq_right (by omega), List.take_of_length_le (Nat.le_refl _), List.take_of_length_le (by omega)]
theorem cut_from (xs : List V) (k : Nat) : cutV xs (some (k : Int)) none = xs.drop k := by
  unfold cutV
  have e : HT.sIx xs.length 0 (some (k : Int)) = min k xs.length := by
    unfold HT.sIx
    simp only
    split <;> omega
  rw [e]
  show (xs.drop (min k xs.length)).take (xs.length - min k xs.length) = xs.drop k
  rw [List.take_of_length_le (by rw [List.length_drop]; exact Nat.le_refl _)]
  by_cases h : k ≤ xs.length
  · rw [Nat.min_eq_left h]
  · rw [Nat.min_eq_right (by omega), List.drop_of_length_le (Nat.le_refl _), List.drop_of_length_le (by omega)]
end L2
set_option Elab.async false
set_option linter.all false
set_option maxRecDepth 100000
set_option maxHeartbeats 1000000
namespace L2
open PySem PySem.Spec PyProof.Rows
theorem same_none {H H' : Hp} {b : Addr} (s : Same H H') (h : H' b = none) : H b = none := by
  cases e : H b with
  | none => rfl
  | some o => rw [s b o e] at h; cases h
def isL (c : Nat) : Bool := decide (97 ≤ c) && decide (c ≤ 122)
def isF (c : Nat) : Bool := decide (48 ≤ c) && decide (c ≤ 57)
def nameB (x : Str) : Bool := (decide (1 ≤ x.length) && decide (x.length ≤ 12)) && (isL (x.cps.getD 0 0) && x.cps.toList.all fun c => isL c || isF c)
def numB (x : Str) : Bool := (decide (1 ≤ x.length) && decide (x.length ≤ 9)) && (x.cps.toList.all isF && (!decide (x.cps.getD 0 0 = 48) || decide (x = "0")))
def valN (x : Str) : Int := (NumText.digitsVal x.cps.toList : Nat)
theorem all_fig {l : List Nat} (h : l.all isF = true) : NumText.AllDigits l := fun c hc => by
  have := List.all_eq_true.mp h c hc
  unfold isF at this
  simpa using this
theorem num_val {x : Str} (h : numB x = true) : intText? x = some (valN x) ∧ x.length ≤ 9 := by
  unfold numB at h
  simp only [Bool.and_eq_true, decide_eq_true_eq] at h
  obtain ⟨⟨h1, h2⟩, h3, _⟩ := h
  refine ⟨intText_digits (all_fig h3) (fun e => ?_) (by omega), h2⟩
  have : x.length = x.cps.toList.length := by simp [Str.length]
  rw [e] at this
  simp at this
  omega
def kT : Key → Str
  | .inl i => Str.ofString (toString i)
  | .inr x => x
def readW : Bool → Str → Option Key
  | true, x => if numB x = true then some (.inl (valN x)) else none
  | false, x => if nameB x = true then some (.inr x) else none
def kdS : Bool → Str
  | true => "number"
  | false => "name"
def formOf (k : Str) : Option (List Bool) :=
  if k = "come" then some [false, false] else if k = "leave" then some [false] else if k = "turn" then some [false, true, false] else if k = "swear" then some [false, true, false, true, false] else
  if k = "recant" then some [false, true] else if k = "enter" then some [false] else if k = "strike" then some [true] else none
theorem form_le {k : Str} {bs : List Bool} (h : formOf k = some bs) : bs.length ≤ 5 := by
  unfold formOf at h
  split at h; · cases h; simp
  split at h; · cases h; simp
  split at h; · cases h; simp
  split at h; · cases h; simp
  split at h; · cases h; simp
  split at h; · cases h; simp
  split at h; · cases h; simp
  cases h
def OkK : Bool → Key → Prop
  | true, .inl i => 0 ≤ i ∧ i < 1000000000
  | false, .inr x => nameB x = true
  | _, _ => False
theorem head_dig : ∀ (m : Nat), 0 < m → ∃ c r, Nat.toDigits 10 m = c :: r ∧ c ≠ '0' := by
  intro m
  induction m using Nat.strongRecOn with
  | ind m ih =>
    intro h
    by_cases c : m < 10
    · rw [Nat.toDigits_of_lt_base c]
      refine ⟨_, _, rfl, ?_⟩
      have : ∀ k : Nat, k < 10 → 0 < k → Nat.digitChar k ≠ '0' := by decide
      exact this m c h
    · rw [Nat.toDigits_of_base_le (by omega) (by omega)]
      obtain ⟨d, r, e, n⟩ := ih (m / 10) (by omega) (by omega)
      rw [e]
      exact ⟨d, _, rfl, n⟩
theorem toNat_inj {c d : Char} (h : c.toNat = d.toNat) : c = d := by
  apply Char.ext
  apply UInt32.toNat.inj
  exact h
theorem len_list (x : Str) : x.length = x.cps.toList.length := by simp [Str.length]
theorem num_text {i : Int} (h0 : 0 ≤ i) (h1 : i < 1000000000) : numB (Str.ofString (toString i)) = true ∧ valN (Str.ofString (toString i)) = i := by
  obtain ⟨m, rfl⟩ := Int.eq_ofNat_of_zero_le h0
  have hm : m < 10 ^ 9 := by omega
  have e := PySem.W.KIN.signs_num m
  have el : (Str.ofString (toString (m : Int))).length = (Nat.toDigits 10 m).length := by rw [len_list, e, List.length_map]
  have hp : 0 < (Nat.toDigits 10 m).length := Nat.length_toDigits_pos
  have h9 : (Nat.toDigits 10 m).length ≤ 9 := (Nat.length_toDigits_le_iff (by decide) (by decide)).mpr hm
  refine ⟨?_, ?_⟩
  · unfold numB
    simp only [Bool.and_eq_true, decide_eq_true_eq, Bool.or_eq_true]
    refine ⟨⟨by omega, by omega⟩, ?_, ?_⟩
    · rw [e, List.all_map, List.all_eq_true]
      intro c hc
      have := Nat.isDigit_of_mem_toDigits (by decide) (by decide) hc
      simp only [Char.isDigit, Bool.and_eq_true, decide_eq_true_eq] at this
      show isF c.toNat = true
      unfold isF
      simp only [Bool.and_eq_true, decide_eq_true_eq]
      exact ⟨this.1, this.2⟩
    · rcases Nat.eq_zero_or_pos m with z | z
      · subst z
        exact .inr rfl
      · obtain ⟨c, r, e2, n⟩ := head_dig m z
        refine .inl ?_
        rw [Bool.not_eq_true', decide_eq_false_iff_not]
        intro q
        have : (Str.ofString (toString (m : Int))).cps.getD 0 0 = c.toNat := by
          rw [e2] at e
          rw [Array.getD_eq_getD_getElem?, ← Array.getElem?_toList, e]
          rfl
        rw [this] at q
        exact n (toNat_inj (d := '0') q)
  · unfold valN
    rw [e, PySem.W.KIN.val_back]
def jl (c : Nat) : List (List Nat) → List Nat
  | [] => []
  | [x] => x
  | x :: y :: r => x ++ c :: jl c (y :: r)
theorem cut_inj {c : Nat} : ∀ {a b r s : List Nat}, c ∉ a → c ∉ b → a ++ c :: r = b ++ c :: s → a = b ∧ r = s
  | [], [], r, s, _, _, h => ⟨rfl, by simpa using h⟩
  | [], y :: b, r, s, _, hb, h => by
    injection h with h1 _
    exact absurd (List.mem_cons.mpr (.inl h1)) hb
  | x :: a, [], r, s, ha, _, h => by
    injection h with h1 _
    exact absurd (List.mem_cons.mpr (.inl h1.symm)) ha
  | x :: a, y :: b, r, s, ha, hb, h => by
    injection h with h1 h2
    obtain ⟨e1, e2⟩ := cut_inj (fun z => ha (List.mem_cons_of_mem _ z)) (fun z => hb (List.mem_cons_of_mem _ z)) h2
    exact ⟨by rw [h1, e1], e2⟩
theorem jl_inj {c : Nat} : ∀ (ws vs : List (List Nat)), ws ≠ [] → vs ≠ [] → (∀ x ∈ ws, c ∉ x) → (∀ x ∈ vs, c ∉ x) → jl c ws = jl c vs → ws = vs
  | [], _, h, _, _, _, _ => absurd rfl h
  | _ :: _, [], _, h, _, _, _ => absurd rfl h
  | [x], [y], _, _, _, _, h => by have h : x = y := h; rw [h]
  | [x], y :: z :: r, _, _, h1, _, h => by
    have h : x = y ++ c :: jl c (z :: r) := h
    exact absurd (by rw [h]; simp) (h1 x (by simp))
  | x :: y :: r, [z], _, _, _, h2, h => by
    have h : x ++ c :: jl c (y :: r) = z := h
    exact absurd (by rw [← h]; simp) (h2 z (by simp))
  | x :: y :: r, z :: u :: s, _, _, h1, h2, h => by
    obtain ⟨e1, e2⟩ := cut_inj (h1 x (by simp)) (h2 z (by simp)) (show x ++ c :: jl c (y :: r) = z ++ c :: jl c (u :: s) from h)
    rw [e1, jl_inj (y :: r) (u :: s) (by simp) (by simp) (fun q hq => h1 q (List.mem_cons_of_mem _ hq)) (fun q hq => h2 q (List.mem_cons_of_mem _ hq)) e2]
theorem join_jl (c : Nat) : ∀ (ws : List Str), (Str.join ⟨#[c]⟩ ws).cps.toList = jl c (ws.map (·.cps.toList))
  | [] => rfl
  | [x] => rfl
  | x :: y :: r => by
    have e : (Str.join ⟨#[c]⟩ (x :: y :: r)).cps = x.cps ++ #[c] ++ (Str.join ⟨#[c]⟩ (y :: r)).cps := rfl
    rw [e, Array.toList_append, Array.toList_append, join_jl c (y :: r), List.append_assoc]
    rfl
theorem split_ne (x y : Str) : Txt.split x y ≠ [] := by
  unfold Txt.split
  split
  · simp
  split
  · simp
  intro h
  have := length_partsBetween x (Builtin.Str.occurrences x y 0 x.length (x.length + 1)) y.length
  rw [h] at this
  simp at this
theorem list_inj {a b : Str} (h : a.cps.toList = b.cps.toList) : a = b := by
  obtain ⟨⟨a⟩⟩ := a
  obtain ⟨⟨b⟩⟩ := b
  simpa using h
theorem map_list_inj : ∀ {a b : List Str}, a.map (·.cps.toList) = b.map (·.cps.toList) → a = b
  | [], [], _ => rfl
  | [], _ :: _, h => by cases h
  | _ :: _, [], h => by cases h
  | x :: a, y :: b, h => by
    injection h with h1 h2
    rw [list_inj h1, map_list_inj h2]
theorem split_join {ws : List Str} (hn : ws ≠ []) (hf : ∀ x ∈ ws, 32 ∉ x.cps.toList) : Txt.split (Txt.join " " ws) " " = ws := by
  have e1 : Str.join " " (Txt.split (Txt.join " " ws) " ") = Txt.join " " ws := StrLaws.join_split _ _
  have e2 : Txt.join " " ws = Str.join " " ws := StrLaws.glued_eq_join _ _
  refine map_list_inj (jl_inj (c := 32) _ _ ?_ ?_ ?_ ?_ ?_)
  · intro h; exact split_ne _ _ (List.map_eq_nil_iff.mp h)
  · intro h; exact hn (List.map_eq_nil_iff.mp h)
  · intro x hx
    obtain ⟨p, hp, rfl⟩ := List.mem_map.mp hx
    exact StrLaws.split_free (Txt.join " " ws) 32 p hp
  · intro x hx
    obtain ⟨p, hp, rfl⟩ := List.mem_map.mp hx
    exact hf p hp
  · rw [← join_jl, ← join_jl]
    show (Str.join " " _).cps.toList = (Str.join " " ws).cps.toList
    rw [e1, e2]
theorem join_len : ∀ (ws : List Str), (Str.join " " ws).length ≤ (ws.map (·.length)).sum + ws.length
  | [] => by decide
  | [x] => by simp [Str.join]
  | x :: y :: r => by
    have e : (Str.join " " (x :: y :: r)).length = x.length + 1 + (Str.join " " (y :: r)).length := by
      show (x.cps ++ #[32] ++ (Str.join " " (y :: r)).cps).size = _
      rw [Array.size_append, Array.size_append]
      rfl
    have := join_len (y :: r)
    rw [e, List.map_cons, List.sum_cons, List.length_cons]
    omega
theorem free_name {x : Str} (h : nameB x = true) : 32 ∉ x.cps.toList ∧ x.length ≤ 12 := by
  unfold nameB at h
  simp only [Bool.and_eq_true, decide_eq_true_eq] at h
  obtain ⟨⟨_, h2⟩, _, h4⟩ := h
  refine ⟨fun z => ?_, h2⟩
  have := List.all_eq_true.mp h4 32 z
  revert this
  decide
theorem free_num {x : Str} (h : numB x = true) : 32 ∉ x.cps.toList ∧ x.length ≤ 12 := by
  unfold numB at h
  simp only [Bool.and_eq_true, decide_eq_true_eq] at h
  obtain ⟨⟨_, h2⟩, h4, _⟩ := h
  refine ⟨fun z => ?_, by omega⟩
  have := List.all_eq_true.mp h4 32 z
  revert this
  decide
theorem free_key {b : Bool} {k : Key} (h : OkK b k) : 32 ∉ (kT k).cps.toList ∧ (kT k).length ≤ 12 := by
  cases b with
  | true =>
    cases k with
    | inl i => exact free_num (num_text h.1 h.2).1
    | inr x => exact h.elim
  | false =>
    cases k with
    | inl i => exact h.elim
    | inr x => exact free_name h
theorem form_free {k : Str} {bs : List Bool} (h : formOf k = some bs) : 32 ∉ k.cps.toList ∧ k.length ≤ 12 := by
  unfold formOf at h
  split at h; · rename_i e; subst e; decide
  split at h; · rename_i e; subst e; decide
  split at h; · rename_i e; subst e; decide
  split at h; · rename_i e; subst e; decide
  split at h; · rename_i e; subst e; decide
  split at h; · rename_i e; subst e; decide
  split at h; · rename_i e; subst e; decide
  cases h
def rdO (t : List Str) (bs : List Bool) (j : Nat) : Option Key := (t[j]?).bind fun x => (bs[j]?).bind fun b => readW b x
def rdV (t : List Str) (bs : List Bool) (j : Nat) : V := ((rdO t bs j).map kV).getD .non
def readL (t : List Str) (bs : List Bool) : Option (List Key) := if ((List.range t.length).all fun j => (rdO t bs j).isSome) = true then some ((List.range t.length).map fun j => (rdO t bs j).getD (.inl 0)) else none
def readF (fo : Option (List Bool)) (ws : List Str) : Option (List Key) :=
  match fo, ws with
  | some bs, h :: t => if t.length = bs.length then (readL t bs).map (Sum.inr h :: ·) else none
  | _, _ => none
theorem rdO_at {t : List Str} {bs : List Bool} {j : Nat} {x : Str} {b : Bool} (h1 : t[j]? = some x) (h2 : bs[j]? = some b) : rdO t bs j = readW b x := by
  unfold rdO; rw [h1, h2]; rfl
theorem readL_all {t : List Str} {bs : List Bool} (h : ∀ j, j < t.length → (rdO t bs j).isSome = true) : readL t bs = some ((List.range t.length).map fun j => (rdO t bs j).getD (.inl 0)) :=
  if_pos (List.all_eq_true.mpr fun j hj => h j (List.mem_range.mp hj))
theorem rdV_map {t : List Str} {bs : List Bool} (h : ∀ j, j < t.length → (rdO t bs j).isSome = true) : ((List.range t.length).map fun j => (rdO t bs j).getD (.inl 0)).map kV = (List.range t.length).map (rdV t bs) := by
  rw [List.map_map]
  refine List.map_congr_left fun j hj => ?_
  have := h j (List.mem_range.mp hj)
  show kV ((rdO t bs j).getD (.inl 0)) = ((rdO t bs j).map kV).getD .non
  cases e : rdO t bs j with
  | none => rw [e] at this; cases this
  | some k => rfl
structure Deed (h : Str) (ks : List Key) (bs : List Bool) : Prop where
  form : formOf h = some bs
  len : ks.length = bs.length
  ok : ∀ (i : Nat) (k : Key) (b : Bool), ks[i]? = some k → bs[i]? = some b → OkK b k
theorem Deed.free {h : Str} {ks : List Key} {bs : List Bool} (d : Deed h ks bs) : ∀ k ∈ (Sum.inr h :: ks : List Key), 32 ∉ (kT k).cps.toList ∧ (kT k).length ≤ 12 := fun k hk => by
  rcases List.mem_cons.mp hk with e | e
  · rw [e]; exact form_free d.form
  · obtain ⟨i, hi, rfl⟩ := List.getElem_of_mem e
    have hb : i < bs.length := by rw [← d.len]; exact hi
    exact free_key (d.ok i _ _ (List.getElem?_eq_getElem hi) (List.getElem?_eq_getElem hb))
theorem Deed.words {h : Str} {ks : List Key} {bs : List Bool} (d : Deed h ks bs) : Txt.split (Txt.join " " ((Sum.inr h :: ks : List Key).map kT)) " " = (Sum.inr h :: ks : List Key).map kT :=
  split_join (by simp) fun x hx => by
    obtain ⟨k, hk, rfl⟩ := List.mem_map.mp hx
    exact (d.free k hk).1
end L2
set_option Elab.async false
set_option linter.all false
set_option maxRecDepth 100000
set_option maxHeartbeats 4000000
namespace K44
open PySem L2
abbrev s_bits : Stmt := top 20
theorem map_snoc {α : Type} (f : Nat → α) (i : Nat) : (List.range i).map f ++ [f i] = (List.range (i + 1)).map f := by rw [List.range_succ, List.map_append]; rfl
theorem small_rng (n : Nat) {α : Type} (f : Nat → α) (h : n ≤ 1000) : ((List.range n).map f).length < sizeLine := by rw [List.length_map, List.length_range]; exact Nat.lt_of_le_of_lt h (by decide)
theorem map_bl (f : Nat → Bool) (n : Nat) : ((List.range n).map fun j => V.bl (f j)) = ((List.range n).map f).map V.bl := by rw [List.map_map]; rfl
def Bin (c : Nat → Nat) : Prop := ∀ i, c i = 121 ∨ c i = 110
def hv (d : Int) (x : Int) : Nat → Int
  | 0 => x
  | i + 1 => hv d x i / d
def bitC (x : Int) (i : Nat) : Nat := if hv 2 x i % 2 = 0 then 110 else 121
theorem bit_bin (x : Int) : Bin (bitC x) := fun i => by unfold bitC; split <;> simp
theorem ny_at (y : Int) : atI ("ny" : Str).cps.toList (y % 2) = some (if y % 2 = 0 then 110 else 121) := by
  by_cases h : y % 2 = 0
  · rw [if_pos h, h]; rfl
  · have : y % 2 = 1 := by omega
    rw [if_neg h, this]; rfl
theorem small_add (n : Nat) (c : Nat → Nat) (d : Nat) (h : n ≤ 1000) : (tx n c).length + (⟨#[d]⟩ : Str).length ≤ sizeLine := by
  rw [tx_len]
  exact Nat.le_trans (show n + 1 ≤ 1001 by omega) (by decide)
section
variable {P : Program} {w : World} {K : PySem.W.Frag} {mg : Str → Option Value} {base : Heap}
def spBits : Sp := fun vs H Q _ => ∃ (x : Int) (n : Nat), vs = [.int x, .int n] ∧ n ≤ 100 ∧ Q (.str (tx n (bitC x))) H
abbrev Nb : List Str := ["_law_number_here", "_law_n", "_law_row", "_law_k"]
theorem sc_bits : FnScope Nb ["_law_number_here", "_law_n"] (defScope s_bits) := ⟨rfl, rfl, rfl, by decide +kernel, rfl, by decide +kernel, by decide +kernel⟩
theorem ok_bits {f : Addr} {fd : FuncData} (D : Df K mg "_law_bits" s_bits ["_law_number_here", "_law_n"] f fd) (B : Bt mg) : FnOk P w K mg base (CXE P w) 1 f fd ["_law_number_here", "_law_n"] spBits := by
  refine D.F.okN sc_bits (fun vs H Q E h => ?_) (fun cdv A outer s H vs Q E hr h => ?_)
  · obtain ⟨x, n, rfl, _⟩ := h
    rfl
  · obtain ⟨x, n, rfl, hn, q⟩ := h
    refine ⟨_, pss_cons (ps_set (i := 2) sc_bits.nd rfl (Or.inl rfl) pe_str)
      (pss_cons (ps_for PassesOwn.never rfl (pi_range1 (by rfl) B.range (pa_cons (pv 1) pa_nil)) (pg_name (i := 3) sc_bits.nd rfl (Or.inl rfl))
        (pss_cons (ps_set (i := 2) sc_bits.nd rfl (Or.inl rfl) (pe_op op_add_str (pv 2) (pe_ix ix_str pe_str (pe_op op_mod (pv 0) pe_int) (fun _ _ => rfl))))
        (pss_one (ps_set (i := 0) sc_bits.nd rfl (Or.inl rfl) (pe_op op_fdiv (pv 0) pe_int)))))
      (pss_one (ps_ret (pv 2)))), ?_⟩
    refine ⟨_, rfl, _, rfl, by omega, by omega, ?_⟩
    have en : ((n : Nat) : Int).toNat = n := by omega
    rw [en]
    refine for_range (fun i σ H2 => ∃ v, σ = [some (.int (hv 2 x i)), some (.int n), some (.str (tx i (bitC x))), v] ∧ H2 = H) ⟨none, rfl, rfl⟩ ?_ ?_
    · rintro i σ H2 hi ⟨v, rfl, rfl⟩
      refine ⟨_, rfl, _, rfl, _, _, rfl, rfl, (by show (0 : Int) < 2; decide), _, _, _, rfl, rfl, (by decide), ny_at _, _, _, rfl, rfl, small_add i _ _ (by omega), ?_⟩
      refine ⟨_, rfl, _, _, rfl, rfl, ⟨by decide, by decide⟩, ?_⟩
      refine ⟨some (.int (0 + i)), ?_, rfl⟩
      rw [tx_snoc' (show (if hv 2 x i % 2 = 0 then 110 else 121) = bitC x i from rfl)]
      rfl
    · rintro σ H2 ⟨v, rfl, rfl⟩
      exact ⟨_, rfl, q⟩
end
end K44
set_option Elab.async false
set_option linter.all false
set_option maxRecDepth 100000
set_option maxHeartbeats 1000000
namespace K44
open PySem L2
abbrev s_isname : Stmt := top 5
abbrev s_isletter : Stmt := top 6
abbrev s_isfigure : Stmt := top 7
abbrev s_isnumber : Stmt := top 14
structure Gm (P : Program) (w : World) (K : PySem.W.Frag) (mg : Str → Option Value) : Prop where
  max : mg "max" = none
  longest : ∃ t, mg "LONGEST_NAME" = some (.int 12 t)
  figures : ∃ t, mg "MOST_FIGURES" = some (.int 9 t)
  forms : ∃ d kvs, mg "DEED_FORMS" = some (.ref d) ∧ KD P K w d kvs ∧ ∀ k, (formOf k = none → valV kvs (.inr k) = none) ∧ ∀ bs, formOf k = some bs → ∃ a, valV kvs (.inr k) = some (.ref a) ∧ ∀ H, SqT K H a (bs.map fun b => V.str (kdS b))
abbrev c1 (c : Nat) : V := .str ⟨#[c]⟩
section
variable {P : Program} {w : World} {K : PySem.W.Frag} {mg : Str → Option Value} {base : Heap}
def spLet : Sp := fun vs H Q _ => ∃ c, vs = [c1 c] ∧ Q (.bl (isL c)) H
def spFig : Sp := fun vs H Q _ => ∃ c, vs = [c1 c] ∧ Q (.bl (isF c)) H
abbrev N_le : List Str := ["sign"]
abbrev P_le : List Str := ["sign"]
theorem sc_le : FnScope N_le P_le (defScope s_isletter) := ⟨rfl, rfl, rfl, by decide +kernel, rfl, by decide +kernel, by decide +kernel⟩
abbrev N_fi : List Str := ["sign"]
abbrev P_fi : List Str := ["sign"]
theorem sc_fi : FnScope N_fi P_fi (defScope s_isfigure) := ⟨rfl, rfl, rfl, by decide +kernel, rfl, by decide +kernel, by decide +kernel⟩
theorem two_ends (c a z : Nat) {Q : Bool → Prop} (q : Q (decide (a ≤ c) && decide (c ≤ z))) : ((!(decide (([c] : List Nat) < [a]))) = true → Q (!(decide (([z] : List Nat) < [c])))) ∧ (¬ (!(decide (([c] : List Nat) < [a]))) = true → Q false) := by
  rw [lt_one, lt_one]
  refine ⟨fun h => ?_, fun h => ?_⟩
  · have h : a ≤ c := by simpa using h
    have : (!decide (z < c)) = (decide (a ≤ c) && decide (c ≤ z)) := by
      rw [Bool.eq_iff_iff]; simp; omega
    rw [this]; exact q
  · have h : ¬ a ≤ c := by simpa using h
    have : (decide (a ≤ c) && decide (c ≤ z)) = false := by rw [decide_eq_false h]; rfl
    rw [this] at q; exact q
theorem ok_letter {f : Addr} {fd : FuncData} (D : Df K mg "is_letter" s_isletter P_le f fd) : FnOk P w K mg base (CXE P w) 1 f fd P_le spLet := by
  refine D.F.okN sc_le (fun vs H Q E h => ?_) (fun cdv A outer s H vs Q E hr h => ?_)
  · obtain ⟨c, rfl, _⟩ := h
    rfl
  · obtain ⟨c, rfl, k⟩ := h
    refine ⟨_, pss_one (ps_ret (pe_chain op_le_str op_le_str pe_str (pv 0) pe_str)), ?_⟩
    refine ⟨_, rfl, _, _, rfl, rfl, _, rfl, ?_⟩
    have z := two_ends c 97 122 (Q := fun b => Q (.bl b) H) k
    exact ite2 (fun h => ⟨_, _, rfl, rfl, z.1 h⟩) (fun h => z.2 h)
theorem ok_figure {f : Addr} {fd : FuncData} (D : Df K mg "is_figure" s_isfigure P_fi f fd) : FnOk P w K mg base (CXE P w) 1 f fd P_fi spFig := by
  refine D.F.okN sc_fi (fun vs H Q E h => ?_) (fun cdv A outer s H vs Q E hr h => ?_)
  · obtain ⟨c, rfl, _⟩ := h
    rfl
  · obtain ⟨c, rfl, k⟩ := h
    refine ⟨_, pss_one (ps_ret (pe_chain op_le_str op_le_str pe_str (pv 0) pe_str)), ?_⟩
    refine ⟨_, rfl, _, _, rfl, rfl, _, rfl, ?_⟩
    have z := two_ends c 48 57 (Q := fun b => Q (.bl b) H) k
    exact ite2 (fun h => ⟨_, _, rfl, rfl, z.1 h⟩) (fun h => z.2 h)
def spName : Sp := fun vs H Q _ => ∃ x : Str, vs = [.str x] ∧ x.length ≤ 100000 ∧ ∀ H', Same H H' → Q (.bl (nameB x)) H'
def spNum : Sp := fun vs H Q _ => ∃ x : Str, vs = [.str x] ∧ x.length ≤ 100000 ∧ ∀ H', Same H H' → Q (.bl (numB x)) H'
abbrev N_na : List Str := ["name"]
abbrev P_na : List Str := ["name"]
theorem sc_na : FnScope N_na P_na (defScope s_isname) := ⟨rfl, rfl, rfl, by decide +kernel, rfl, by decide +kernel, by decide +kernel⟩
abbrev N_na1 : List Str := ["sign"]
theorem nd_na1 : N_na1.Nodup := by decide +kernel
abbrev N_nu : List Str := ["word"]
abbrev P_nu : List Str := ["word"]
theorem sc_nu : FnScope N_nu P_nu (defScope s_isnumber) := ⟨rfl, rfl, rfl, by decide +kernel, rfl, by decide +kernel, by decide +kernel⟩
abbrev N_nu1 : List Str := ["sign"]
theorem nd_nu1 : N_nu1.Nodup := by decide +kernel
theorem len_ok {x : Str} (h : x.length ≤ 100000) : x.length ≤ sizeLine := Nat.le_trans h (by decide)
theorem all_places (x : Str) (p : Nat → Bool) : ((List.range x.length).map fun i => p (x.cps.getD i 0)).all id = x.cps.toList.all p := by
  have e : ((List.range x.length).map fun i => p (x.cps.getD i 0)) = x.cps.toList.map p := by
    apply List.ext_getElem?
    intro i
    simp [Str.length]
    by_cases h : i < x.cps.size
    · simp [h]
    · simp [h]
  rw [e, List.all_map]
  rfl
theorem ok_name {f fl ff : Addr} {fd gl gf : FuncData} (D : Df K mg "is_name" s_isname P_na f fd) (Dl : Df K mg "is_letter" s_isletter P_le fl gl) (Df' : Df K mg "is_figure" s_isfigure P_fi ff gf) (B : Bt mg) (M : Gm P w K mg) : FnOk P w K mg base (CXE P w) 2 f fd P_na spName := by
  refine D.F.okN sc_na (fun vs H Q E h => ?_) (fun cdv A outer s H vs Q E hr h => ?_)
  · obtain ⟨x, rfl, _⟩ := h
    rfl
  · obtain ⟨x, rfl, hx, k⟩ := h
    obtain ⟨tm, mL⟩ := M.longest
    have no : ¬ (1 ≤ x.length ∧ x.length ≤ 12) → Q (.bl false) H := fun z => by
      have q := k H (Same.refl H)
      have : nameB x = false := by
        unfold nameB
        rw [Bool.and_eq_false_iff]; left
        rw [← Bool.decide_and, decide_eq_false_iff_not]; exact z
      rw [this] at q; exact q
    refine ⟨_, pss_cons (ps_if (PW.pt (pw_or (pt_cmpR op_lt (pe_callB call_len_str (by rfl) B.len PySem.boot_len (pa_cons (pv 0) pa_nil)) pe_int (nomark _)) (pw_or1 (pt_cmpR op_gt (pe_callB call_len_str (by rfl) B.len PySem.boot_len (pa_cons (pv 0) pa_nil)) (pe_glob (v := .int 12) (by rfl) mL ⟨tm, rfl⟩) (nomark _))))) (pss_one (ps_ret pe_bl)) pss_nil)
      (pss_one (ps_ret (pe_and (pe_fn Dl (ok_letter Dl) (hr.mono (by decide)) passN (pa_cons (pe_ix ix_str (pv 0) pe_int (fun _ _ => rfl)) pa_nil)) (pe_one (pe_callB (call_all rfl) (by rfl) B.all (by rfl) (pa_cons (pe_comp (N' := N_na1) (fm := [none]) rfl ⟨rfl, by decide +kernel, by decide +kernel, rfl, rfl, rfl⟩ (pi_str (pv 0)) (fun _ _ _ _ => (pg_name (i := 0) nd_na1 rfl (Or.inl rfl))) (fun _ _ _ _ => pif_nil) (fun _ _ _ _ => (pe_or (pe_fn Dl (ok_letter Dl) (hr.mono (by decide)) passN (pa_cons (pv 0) pa_nil)) (pe_one (pe_fn Df' (ok_figure Df') (hr.mono (by decide)) passN (pa_cons (pv 0) pa_nil)))))) pa_nil)))))), ?_⟩
    refine ⟨_, rfl, _, rfl, len_ok hx, _, _, rfl, rfl, _, rfl, ite2 (fun c => ?_) (fun c => ?_)⟩
    · have c : (x.length : Int) < 1 := of_decide_eq_true c
      exact iteT (no (by omega))
    have c : ¬ (x.length : Int) < 1 := fun z => c (decide_eq_true z)
    refine ⟨_, rfl, _, rfl, len_ok hx, _, _, rfl, rfl, _, rfl, ite2 (fun d => ?_) (fun d => ?_)⟩
    · have d : (12 : Int) < x.length := of_decide_eq_true d
      exact no (by omega)
    have d : ¬ (12 : Int) < x.length := fun z => d (decide_eq_true z)
    have e0 : atI x.cps.toList 0 = some (x.cps.getD 0 0) := by
      refine atI_nat (j := 0) ?_
      rw [Array.getElem?_toList]
      exact sg_at (by omega)
    have yes : nameB x = (isL (x.cps.getD 0 0) && x.cps.toList.all fun c => isL c || isF c) := by
      unfold nameB
      rw [decide_eq_true (show 1 ≤ x.length by omega), decide_eq_true (show x.length ≤ 12 by omega)]
      rfl
    rw [yes] at k
    refine ⟨_, rfl, _, _, _, rfl, rfl, len_ok hx, e0, _, rfl, _, rfl, ite2 (fun h0 => ?_) (fun h0 => ?_)⟩
    · rw [show isL (x.cps.getD 0 0) = true from h0] at k
      refine ⟨_, rfl, _, rfl, fun p hp => ?_⟩
      refine blk_str (fun i σ H2 => ∃ u, σ = [u] ∧ Same H H2 ∧ H2 p = some (.lst ((List.range i).map fun j => V.bl (isL (x.cps.getD j 0) || isF (x.cps.getD j 0))))) ⟨none, rfl, Same.new hp, upd_same⟩ ?_ ?_
      · rintro i σ H2 hi ⟨u, rfl, s2, e2⟩
        have fin : ∀ b, b = (isL (x.cps.getD i 0) || isF (x.cps.getD i 0)) → ∃ ys, H2 p = some (.lst ys) ∧ ys.length < sizeLine ∧ ∃ u, [some (sg x i)] = [u] ∧ Same H (upd H2 p (.lst (ys ++ [V.bl b]))) ∧ (upd H2 p (.lst (ys ++ [V.bl b]))) p = some (.lst ((List.range (i + 1)).map fun j => V.bl (isL (x.cps.getD j 0) || isF (x.cps.getD j 0)))) := fun b hb => by
          refine ⟨_, e2, small_rng _ _ (by omega), _, rfl, Same.grow hp s2, ?_⟩
          rw [upd_same, ← map_snoc, hb]
        refine turn_all ⟨_, rfl, _, rfl, _, rfl, ite2 (fun h => ?_) (fun h => ?_)⟩
        · exact fin _ (by rw [h]; rfl)
        · exact ⟨_, rfl, _, rfl, fin _ (by rw [Bool.eq_false_iff.mpr h]; rfl)⟩
      · rintro σ H2 ⟨u, rfl, s2, e2⟩
        rw [map_bl] at e2
        refine ⟨p, _, rfl, SqL.of e2, ?_⟩
        rw [all_places x fun c => isL c || isF c]
        exact k H2 s2
    · rw [show isL (x.cps.getD 0 0) = false from Bool.eq_false_iff.mpr h0] at k
      exact k H (Same.refl H)
theorem ok_number {f ff : Addr} {fd gf : FuncData} (D : Df K mg "is_number" s_isnumber P_nu f fd) (Df' : Df K mg "is_figure" s_isfigure P_fi ff gf) (B : Bt mg) (M : Gm P w K mg) : FnOk P w K mg base (CXE P w) 2 f fd P_nu spNum := by
  refine D.F.okN sc_nu (fun vs H Q E h => ?_) (fun cdv A outer s H vs Q E hr h => ?_)
  · obtain ⟨x, rfl, _⟩ := h
    rfl
  · obtain ⟨x, rfl, hx, k⟩ := h
    obtain ⟨tm, mL⟩ := M.figures
    have no : ¬ (1 ≤ x.length ∧ x.length ≤ 9) → Q (.bl false) H := fun z => by
      have q := k H (Same.refl H)
      have : numB x = false := by
        unfold numB
        rw [Bool.and_eq_false_iff]; left
        rw [← Bool.decide_and, decide_eq_false_iff_not]; exact z
      rw [this] at q; exact q
    refine ⟨_, pss_cons (ps_if (PW.pt (pw_or (pt_cmpR op_lt (pe_callB call_len_str (by rfl) B.len PySem.boot_len (pa_cons (pv 0) pa_nil)) pe_int (nomark _)) (pw_or1 (pt_cmpR op_gt (pe_callB call_len_str (by rfl) B.len PySem.boot_len (pa_cons (pv 0) pa_nil)) (pe_glob (v := .int 9) (by rfl) mL ⟨tm, rfl⟩) (nomark _))))) (pss_one (ps_ret pe_bl)) pss_nil)
      (pss_one (ps_ret (pe_and (pe_callB (call_all rfl) (by rfl) B.all (by rfl) (pa_cons (pe_comp (N' := N_nu1) (fm := [none]) rfl ⟨rfl, by decide +kernel, by decide +kernel, rfl, rfl, rfl⟩ (pi_str (pv 0)) (fun _ _ _ _ => (pg_name (i := 0) nd_nu1 rfl (Or.inl rfl))) (fun _ _ _ _ => pif_nil) (fun _ _ _ _ => (pe_fn Df' (ok_figure Df') (hr.mono (by decide)) passN (pa_cons (pv 0) pa_nil)))) pa_nil)) (pe_one (pe_or (pe_cmpR op_ne (pe_ix ix_str (pv 0) pe_int (fun _ _ => rfl)) pe_str (nomark _)) (pe_one (pe_cmpR op_eq (pv 0) pe_str (nomark _)))))))), ?_⟩
    refine ⟨_, rfl, _, rfl, len_ok hx, _, _, rfl, rfl, _, rfl, ite2 (fun c => ?_) (fun c => ?_)⟩
    · have c : (x.length : Int) < 1 := of_decide_eq_true c
      exact iteT (no (by omega))
    have c : ¬ (x.length : Int) < 1 := fun z => c (decide_eq_true z)
    refine ⟨_, rfl, _, rfl, len_ok hx, _, _, rfl, rfl, _, rfl, ite2 (fun d => ?_) (fun d => ?_)⟩
    · have d : (9 : Int) < x.length := of_decide_eq_true d
      exact no (by omega)
    have d : ¬ (9 : Int) < x.length := fun z => d (decide_eq_true z)
    have e0 : atI x.cps.toList 0 = some (x.cps.getD 0 0) := by
      refine atI_nat (j := 0) ?_
      rw [Array.getElem?_toList]
      exact sg_at (by omega)
    have yes : numB x = (x.cps.toList.all isF && (!decide (x.cps.getD 0 0 = 48) || decide (x = "0"))) := by
      unfold numB
      rw [decide_eq_true (show 1 ≤ x.length by omega), decide_eq_true (show x.length ≤ 9 by omega)]
      rfl
    rw [yes] at k
    refine ⟨_, rfl, _, rfl, fun p hp => ?_⟩
    refine blk_str (fun i σ H2 => ∃ u, σ = [u] ∧ Same H H2 ∧ H2 p = some (.lst ((List.range i).map fun j => V.bl (isF (x.cps.getD j 0))))) ⟨none, rfl, Same.new hp, upd_same⟩ ?_ ?_
    · rintro i σ H2 hi ⟨u, rfl, s2, e2⟩
      refine turn_all ⟨_, rfl, _, rfl, _, e2, small_rng _ _ (by omega), _, rfl, Same.grow hp s2, ?_⟩
      rw [upd_same, ← map_snoc]
    · rintro σ H2 ⟨u, rfl, s2, e2⟩
      rw [map_bl] at e2
      refine ⟨p, _, rfl, SqL.of e2, _, rfl, ?_⟩
      rw [all_places x isF]
      refine ite2 (fun h => ?_) (fun h => ?_)
      · rw [h] at k
        refine ⟨_, rfl, _, _, _, rfl, rfl, len_ok hx, e0, rfl, _, rfl, ?_⟩
        have e1 : (!decide (V.str ⟨#[x.cps.getD 0 0]⟩ = V.str "0")) = !decide (x.cps.getD 0 0 = 48) := by
          congr 1
          refine decide_eq_decide.mpr ⟨fun z => ?_, fun z => by rw [z]; rfl⟩
          have z : (⟨#[x.cps.getD 0 0]⟩ : Str) = ⟨#[48]⟩ := by injection z
          have z : #[x.cps.getD 0 0] = #[48] := by injection z
          simpa using z
        rw [e1]
        refine ite2 (fun h2 => ?_) (fun h2 => ?_)
        · rw [h2] at k
          exact k H2 s2
        · rw [Bool.eq_false_iff.mpr h2] at k
          refine ⟨_, rfl, rfl, ?_⟩
          have e2 : decide (V.str x = V.str "0") = decide (x = "0") := decide_eq_decide.mpr ⟨fun z => by injection z, fun z => by rw [z]⟩
          rw [e2]
          exact k H2 s2
      · rw [Bool.eq_false_iff.mpr h] at k
        exact k H2 s2
end
end K44
set_option Elab.async false
set_option linter.all false
set_option maxRecDepth 100000
set_option maxHeartbeats 1000000
namespace K44
open PySem L2
open PyProof.Rows (envOfC)
abbrev s_winit : Stmt := inClass (top 1) 0
abbrev s_cinit : Stmt := inClass (top 2) 0
structure Xs (K : PySem.W.Frag) (mg : Str → Option Value) (W BC fW fC : Addr) (gW gC : FuncData) : Prop where
  mW : mg "WapentakeError" = some (.ref W)
  mC : mg "BadText" = some (.ref BC)
  mV : mg "ValueError" = none
  kW : XKl K W
  kC : XKl K BC
  sC : XSub K BC W
  aW : XAt K W "__init__" fW
  iC : XMk K BC fC
  FW : Fun K "__init__" "WapentakeError.__init__" s_winit fW gW
  FC : Fun K "__init__" "BadText.__init__" s_cinit fC gC
  bW : Binds K gW ["self", "word"] []
  bC : Binds K gC ["self"] []
section
variable {P : Program} {w : World} {K : PySem.W.Frag} {mg : Str → Option Value} {base : Heap} {W BC fW fC : Addr} {gW gC : FuncData}
def spWInit (K : PySem.W.Frag) : Sp := fun vs H Q _ => ∃ (ea C : Addr) (tb : Value) (ww : Str), vs = [.ref ea, .str ww] ∧ H ea = some (XO C none tb ea) ∧ XKl K C ∧ ∀ dx, H dx = none → Q .non (upd (upd H ea (XO C (some dx) tb ea)) dx (.xd [("word", .str ww)]))
theorem sc_winit : FnScope ["self", "word"] ["self", "word"] (defScope s_winit) := ⟨rfl, rfl, rfl, by decide +kernel, rfl, by decide +kernel, by decide +kernel⟩
theorem ok_winit (T : Xs K mg W BC fW fC gW gC) : FnOk P w K mg base (CXE P w) 1 fW gW ["self", "word"] (spWInit K) := by
  refine T.FW.okN sc_winit (fun vs H Q E h => ?_) (fun cdv A outer s H vs Q E hr h => ?_)
  · obtain ⟨ea, C, tb, ww, rfl, _⟩ := h
    rfl
  · obtain ⟨ea, C, tb, ww, rfl, e1, XC, k⟩ := h
    refine ⟨_, pss_cons (ps_expr (pe_vinit (by rfl) T.mV (pa_cons (pv 0) (pa_cons (pv 1) pa_nil)))) (pss_one (ps_xfld (pv 0) (pv 1))), ?_⟩
    exact ⟨_, rfl, _, rfl, ea, C, none, tb, _, rfl, e1, XC, _, rfl, _, rfl, ea, C, tb, rfl, e1, XC, XC.nw, fun dx hd => k dx hd⟩
def spInit (C : Addr) (ww : Str) : Sp := fun vs H Q _ => ∃ (ea : Addr) (tb : Value), vs = [.ref ea] ∧ H ea = some (XO C none tb ea) ∧ ∀ dx, H dx = none → Q .non (upd (upd H ea (XO C (some dx) tb ea)) dx (.xd [("word", .str ww)]))
theorem sc_cinit : FnScope ["self"] ["self"] (defScope s_cinit) := ⟨rfl, rfl, rfl, by decide +kernel, rfl, by decide +kernel, by decide +kernel⟩
theorem ok_cinit (T : Xs K mg W BC fW fC gW gC) : FnOk P w K mg base (CXE P w) 2 fC gC ["self"] (spInit BC "bad text") := by
  refine T.FC.okN sc_cinit (fun vs H Q E h => ?_) (fun cdv A outer s H vs Q E hr h => ?_)
  · obtain ⟨ea, tb, rfl, _⟩ := h
    rfl
  · obtain ⟨ea, tb, rfl, e1, k⟩ := h
    refine ⟨_, pss_one (ps_expr (pe_cmeth T.aW (ok_winit T) hr (by rfl) T.mW T.bW passN (pa_cons (pv 0) (pa_cons pe_str pa_nil)))), ?_⟩
    exact ⟨_, rfl, ea, BC, tb, _, rfl, e1, T.kC, k⟩
def Ref (H : Hp) (E : XK) (C : Addr) (ww : Str) : Prop := ∀ dx H0, Same H H0 → H0 dx = some (.xd [("word", .str ww)]) → E (.ref C) (some dx) H0
theorem Ref.same {H H' : Hp} {E : XK} {C : Addr} {ww : Str} (r : Ref H E C ww) (s : Same H H') : Ref H' E C ww := fun dx H0 s0 e => r dx H0 (s.trans' s0) e
theorem Ref.out {H : Hp} {E : XK} {C ea dx : Addr} {o u : HO} {ww : Str} (r : Ref H E C ww) (he : H ea = none) (hd : upd H ea o dx = none) :
    E (.ref C) (some dx) fun b => if b = ea then none else upd (upd (upd H ea o) ea u) dx (.xd [("word", .str ww)]) b := by
  have ne : dx ≠ ea := fun z => by rw [z, upd_same] at hd; cases hd
  rw [upd_ne ne] at hd
  refine r dx _ (fun b v e => ?_) ?_
  · rw [if_neg (ne_of_none e he), upd_ne (ne_of_none e hd), upd_ne (ne_of_none e he), upd_ne (ne_of_none e he)]
    exact e
  · rw [if_neg ne, upd_same]
theorem Ref.raise {C ea : Addr} {H : Hp} {E : XK} {ww : Str} (r : Ref H E C ww) (kC : XKl K C) (he : H ea = none) : spInit C ww [.ref ea] (upd H ea (XO C none .none ea)) (fun v H2 => v = .non ∧ ∃ ea' C' dx, V.ref ea = .ref ea' ∧ H2 ea' = some (XO C' (some dx) .none ea') ∧ XKl K C' ∧ E (.ref C') (some dx) (fun b => if b = ea' then none else H2 b)) E := by
  refine ⟨ea, .none, rfl, upd_same, fun dx hd => ⟨rfl, ea, C, dx, rfl, ?_, kC, r.out he hd⟩⟩
  rw [upd_ne (fun z => by rw [← z, upd_same] at hd; cases hd), upd_same]
end
end K44
set_option Elab.async false
set_option linter.all false
set_option maxRecDepth 100000
set_option maxHeartbeats 4000000
namespace L2
open PySem PySem.Spec PyProof.Rows
section
variable {X : Cx} {pins : List (Addr × Obj)} {σ : St} {H : Hp} {s : Shared} {E : Value → Shared → Prop} {C ea T : Addr} {dx : Option Addr} {tb fl : Value} {A : Around}
theorem note_newG {env' : Env} {outer' : List Env} {L : Addr} {head : Value} {b : Bool} {Q : Unit → Shared → Prop} (hfr : X.A.frames = some (env' :: outer')) (hst : X.stack = env' :: outer') (hL : env'.frame = some L) (I : Inv X pins σ H s) (e : H ea = some (XO C dx tb ea))
    (h : ∀ s', Noted X pins σ H C dx ea (rawInt L) s' → Q () s') :
    wpAny (model X.prog X.w) X.A (do let a ← frameOf env'; let pl ← entryPlaceOf L b; let r ← EntryCells.newEntry head a .none (rawInt L) .none pl; setField (.ref ea) 1 r) Q E s := by
  have hl := I.stack
  rw [hst] at hl
  refine wpAny_bind (wpAny_frameOf_fun hfr hl hL fun h1 hs1 => ?_)
  have I1 := I.slots (h' := h1) (by rw [hst]; exact hs1)
  refine wpAny_bind (wpAny_entryPlaceOf fun pl hpl => ?_)
  unfold EntryCells.newEntry newFields
  refine wpAny_bind (wpAny_newObj_type ?_ (hpl.sizeOk5 _ _ _ _ _))
  have fresh : H h1.objs.size = none := I1.hok.fresh (Nat.le_refl _)
  have ne : h1.objs.size ≠ ea := fun z => by rw [← z, fresh] at e; cases e
  have t3 : (([head, .ref L, .none, rawInt L, .none] ++ (if pl.isEmpty then List.replicate 6 Value.none else pl)).toArray : Array Value)[3]? = some (rawInt L) := by simp
  have I2 : Inv X pins σ (upd H h1.objs.size (TB (rawInt L) h1.objs.size)) { s with heap := h1.push { cls := .type "traceback", dict := none, data := .fields ([head, .ref L, .none, rawInt L, .none] ++ (if pl.isEmpty then List.replicate 6 Value.none else pl)).toArray } } :=
    I1.laid (a := h1.objs.size) (t' := s.toks) (fun c u q => Heap.get?_push_of_some _ q) (Nat.le_refl _) (TB.mk (Heap.get?_push_size _ rfl) rfl t3)
  have e2 : (upd H h1.objs.size (TB (rawInt L) h1.objs.size)) ea = some (XO C dx tb ea) := by rw [upd_ne (Ne.symm ne)]; exact e
  obtain ⟨a0, q⟩ := XO.at I2.hok e2
  refine wpAny_setField q rfl (by show 1 < 6; decide) (h _ ⟨h1.objs.size, fresh, ne, I2.xset (i := 1) (a1 := a0) e2 q rfl⟩)
theorem note_okG {env' : Env} {outer' : List Env} {L : Addr} {Q : Unit → Shared → Prop} (hst : X.stack = env' :: outer') (hL : env'.frame = some L) (I : Inv X pins σ H s) (e : H ea = some (XO C dx tb ea)) (ht : TbOk H tb)
    (h : ∀ s', Noted X pins σ H C dx ea (rawInt L) s' → Q () s') : wpAny (model X.prog X.w) X.A (noteFrame (.ref ea) env') Q E s := by
  have hfr : X.A.frames = some (env' :: outer') := by rw [I.ok.frames, hst]
  obtain ⟨a0, q⟩ := XO.at I.hok e
  unfold noteFrame
  simp only [hL]
  refine wpAny_bind (wpAny_field q (x := tb) rfl rfl ?_)
  rcases ht with z | ⟨T, z, eT⟩
  · subst z
    rw [if_neg (by decide)]
    exact note_newG hfr hst hL I e h
  · subst z
    obtain ⟨oT, ts, qT, dT, t3⟩ := TB.at I.hok eT
    rw [if_pos (show (Value.ref T != Value.none) = true by simp)]
    refine wpAny_bind (wpAny_field qT dT t3 ?_)
    rw [if_neg (show ¬ ((Value.none == rawInt L) = true) by simp [rawInt])]
    have h3 : 3 < ts.size := (Array.getElem?_eq_some_iff.mp t3).1
    have I1 := I.tset (v := Value.none) eT qT dT h3
    rw [upd_id eT] at I1
    exact wpAny_bind (wpAny_setField qT dT h3 (note_newG hfr hst hL I1 e h))
theorem leave_any {Q : Unit → Shared → Prop} (hst : X.stack = X.env :: X.outer) (hL : X.env.frame = some X.env.locals) (I : Inv X pins σ H s) (e : H ea = some (XO C dx (.ref T) ea)) (eT : H T = some (TB fl T)) (neT : T ≠ ea)
    (h : ∀ s' T' H', Inv X pins σ H' s' → H' ea = some (XO C dx (.ref T') ea) → H' T' = some (TB .none T') → (∀ b o, b ≠ ea → b ≠ T → H b = some o → H' b = some o) → Q () s') : wpAny (model X.prog X.w) X.A (leaving X.env (.ref ea)) Q E s := by
  have hfr : X.A.frames = some (X.env :: X.outer) := by rw [I.ok.frames, hst]
  obtain ⟨a0, q⟩ := XO.at I.hok e
  obtain ⟨oT, ts, qT, dT, t3⟩ := TB.at I.hok eT
  have h3 : 3 < ts.size := (Array.getElem?_eq_some_iff.mp t3).1
  unfold leaving
  refine wpAny_bind ?_
  unfold noteFrame
  simp only [hL]
  refine wpAny_bind (wpAny_field q (x := .ref T) rfl rfl ?_)
  rw [if_pos (show (Value.ref T != Value.none) = true by simp)]
  refine wpAny_bind (wpAny_field qT dT t3 ?_)
  by_cases c : (fl == rawInt X.env.locals) = true
  · rw [if_pos c]
    refine wpAny_pure (flight_ok I e eT fun s2 I2 => h s2 T _ I2 (by rw [upd_ne (Ne.symm neT)]; exact e) upd_same fun b o hb hT q => by rw [upd_ne hT]; exact q)
  · rw [if_neg c]
    have I1 := I.tset (v := Value.none) eT qT dT h3
    refine wpAny_bind (wpAny_setField qT dT h3 (note_new (C := C) (dx := dx) (tb := .ref T) hfr hst hL I1 (by rw [upd_ne (Ne.symm neT)]; exact e) fun s1 ⟨T', n, ne, I2⟩ => ?_))
    have e1 : upd (upd (upd H T (TB .none T)) T' (TB (rawInt X.env.locals) T')) ea (XO C dx (.ref T') ea) ea = some (XO C dx (.ref T') ea) := upd_same
    have e2 : upd (upd (upd H T (TB .none T)) T' (TB (rawInt X.env.locals) T')) ea (XO C dx (.ref T') ea) T' = some (TB (rawInt X.env.locals) T') := by rw [upd_ne ne, upd_same]
    refine flight_ok I2 e1 e2 fun s2 I3 => h s2 T' _ I3 (by rw [upd_ne (Ne.symm ne)]; exact e1) upd_same fun b o hb hT q => ?_
    have q1 : upd H T (TB .none T) b = some o := by rw [upd_ne hT]; exact q
    have hT' : b ≠ T' := ne_of_none q1 n
    rw [upd_ne hT', upd_ne hb, upd_ne hT']
    exact q1
end
def LiesE (X : Cx) (E : XK) : Value → Shared → Prop := fun e s' => ∃ (pins : List (Addr × Obj)) (σ : St) (ea C dx : Addr) (tb : Value) (H0 H' : Hp), e = .ref ea ∧ Inv X pins σ H' s' ∧ H' ea = some (XO C (some dx) tb ea) ∧ TbOk H' tb ∧ SameX ea H0 H' ∧ H0 ea = none ∧ E (.ref C) (some dx) H0
theorem passC {P : Program} {w : World} {X : Cx} {E : XK} (hP : X.prog = P) (hw : X.w = w) : Passes (CXE P w) (X.wish (LiesE X E)) E := by
  subst hP hw
  intro pins σ H1 s1 e s2 I h
  obtain ⟨ea, C, dx, tb, H0, H2, rfl, os, bare, un, hok, e1, ht, sx, n0, q⟩ := h
  have J : Inv (X.wish (LiesE X E)) pins σ H2 s2 := I.call' (ch := []) os un hok bare fun b z => absurd z (by simp)
  exact ⟨pins, σ, ea, C, dx, tb, H0, H2, rfl, J.unwish, e1, ht, sx, n0, q⟩
section
variable {X : Cx} {elt iter tg : Expr} {ifs : List Expr} {scope : Scope} {pos : Pos} {N' : List Str} {fm : List (Option Nat)} {wi : TI} {g : TG} {tt : TT} {te : TE}
theorem comp_loopE {E : XK} {R : Result → Shared → Prop} {pins : List (Addr × Obj)} {σ : St} {H : Hp} {s s1 : Shared} {it p C : Addr} {fp : List Addr} {tn : Nat → Heap → Prop} {J : It} {Q : Hp → Prop} {H0 : Hp} {σ0 : St}
    (hc : X.calm = true) (hg : PG (cxC X scope N' s H C fp) tg g) (ht : PIfs (cxC X scope N' s H C fp) ifs tt) (he : PE ((cxC X scope N' s H C fp).wish (LiesE (cxC X scope N' s H C fp) E)) elt te)
    (T : Turn X.prog X.w X.K tg J fp it tn) (hfp : ∀ {H' : Hp}, (∀ b ∈ fp, H' b = none) → ∀ b ∈ fp, FpOk (cxC X scope N' s H C fp) [] H' b)
    (I : Inv (cxC X scope N' s H C fp) [] σ0 H0 s1) (st : tn 0 s1.heap) (hfr : ∀ b ∈ fp, H0 b = none) (blk : tBlk J p g tt te σ0 H0 Q)
    (hR : ∀ σ' H' s', Inv (cxC X scope N' s H C fp) [] σ' H' s' → Q H' → R (.ok .next) s')
    (hst : X.stack = X.env :: X.outer) (hL : X.env.frame = some X.env.locals)
    (hE : ∀ p1 σ' H' s' ea K' dx T fl H0, Inv (cxC X scope N' s H C fp) p1 σ' H' s' → H' ea = some (XO K' (some dx) (.ref T) ea) → H' T = some (TB fl T) → T ≠ ea → SameX ea H0 H' → H0 ea = none → H0 T = none → E (.ref K') (some dx) H0 → R (.error (.ref ea)) s') :
    codeAny (model X.prog X.w) X.A (.compLoop (.ListComp elt [⟨tg, iter, ifs, 0⟩] scope pos) 0 (.ref it) (.ref p) (compEnvC scope (clOf scope X.env) C X.env)) R s1 := by
  obtain ⟨W, ⟨m0, w0⟩, turn⟩ := blk
  refine codeAny_loop rfl (fun n s' => ∃ i σ' H', Inv (cxC X scope N' s H C fp) [] σ' H' s' ∧ tn i s'.heap ∧ (∀ b ∈ fp, H' b = none) ∧ W i n σ' H') (fun n s2 hI => ?_) m0 ⟨0, σ0, H0, I, st, hfr, w0⟩
  obtain ⟨i, σ2, H2, I2, st2, fr2, w2⟩ := hI
  show wpAny _ X.A ((compTurn (.ListComp elt [⟨tg, iter, ifs, 0⟩] scope pos) 0 (.ref it) (.ref p) (compEnvC scope (clOf scope X.env) C X.env)).onRaise fun x => do noteFrame x (compEnvC scope (clOf scope X.env) C X.env); theTreesLotGoes x) _ _ s2
  refine wpAny_noted ?_
  rw [compTurn_list]
  have lift : ∀ {α : Type} {t : Sem α} {Q1 Q2 : α → Shared → Prop} {E2 : Value → Shared → Prop} {s' : Shared}, wpAny (model X.prog X.w) X.A t Q1 (fun _ _ => False) s' → (∀ a s'', Q1 a s'' → Q2 a s'') → wpAny (model X.prog X.w) X.A t Q2 E2 s' :=
    fun h k => wpAny_mono h k fun _ _ z => z.elim
  rcases turn i n σ2 H2 w2 with ⟨stop, qn⟩ | ⟨go, N, hN, step⟩
  · refine wpAny_bind (wpAny_standAt (wpAny_bind (lift (T.done (cxC X scope N' s H C fp) rfl rfl rfl hc i [] s2 σ2 H2 _ I2 (hfp fr2) st2 stop) fun r s3 q => ?_)))
    obtain ⟨hr, I3⟩ := q
    subst hr
    exact wpAny_pure (hR σ2 H2 s3 I3 qn)
  · refine wpAny_bind (wpAny_standAt (wpAny_bind (lift (T.item (cxC X scope N' s H C fp) rfl rfl rfl hc i [] s2 σ2 H2 _ I2 (hfp fr2) st2 go) fun r s3 q => ?_)))
    obtain ⟨u, hr, h3⟩ := q
    subst hr
    refine wpAny_bind (lift h3 fun _ s4 q4 => ?_)
    obtain ⟨x, H4, I4, r4, y4, st4, fr4⟩ := q4
    have I4' := I4.pinned (hfp fr4) (T.obj _ _ st4)
    refine wpAny_bind (lift (hg _ s4 σ2 H4 x u _ I4' r4 (step x H4 y4)) fun _ s5 q5 => ?_)
    obtain ⟨σ5, H5, I5, q5⟩ := q5
    refine wpAny_bind (lift (ht _ s5 σ5 H5 _ I5 q5) fun b s6 q6 => ?_)
    obtain ⟨H6, I6, q6⟩ := q6
    have again : ∀ {σ7 : St} {H7 : Hp} {s7 : Shared} {m' : Nat}, Inv (cxC X scope N' s H C fp) ([] ++ pinsAt fp s4.heap) σ7 H7 s7 → W (i + 1) m' σ7 H7 →
        ∃ i σ' H', Inv (cxC X scope N' s H C fp) [] σ' H' s7 ∧ tn i s7.heap ∧ (∀ b ∈ fp, H' b = none) ∧ W i m' σ' H' := fun {σ7 H7 s7 m'} I7 w7 => by
      refine ⟨i + 1, σ7, H7, I7.unpinned, T.keep _ _ _ st4 fun b hb o e => (I7.pin (b, o) (List.mem_append_right _ (List.mem_append_right _ (mem_pinsAt hb e)))).1, fun b hb => ?_, w7⟩
      obtain ⟨o, e, d⟩ := T.obj _ _ st4 b hb
      exact (I7.pin (b, o) (List.mem_append_right _ (List.mem_append_right _ (mem_pinsAt hb e)))).2.1
    cases b with
    | false =>
      rw [if_neg Bool.false_ne_true] at q6
      obtain ⟨m', hm, w7⟩ := hN _ _ q6
      exact wpAny_pure ⟨rfl, m', hm, again I6 w7⟩
    | true =>
      rw [if_pos rfl] at q6
      refine wpAny_bind (wpAny_bind (wpAny_mono (he _ s6 σ5 H6 _ (I6.wish _) q6) (fun u s7 q7 => ?_) (fun e s7 z => ?_)))
      case refine_2 =>
        obtain ⟨p1, σ', ea, K', dx, tb, H0, H', rfl, J, e1, ht, sx, n0, q⟩ := z
        show wpAny _ _ (noteFrame (.ref ea) X.env) _ _ s7
        refine note_okG (X := cxC X scope N' s H C fp) (env' := X.env) (outer' := X.outer) hst hL J e1 ht fun s8 ⟨T, nT, neT, J2⟩ => ?_
        refine hE _ _ _ s8 ea K' dx T _ H0 J2 upd_same (by rw [upd_ne neT, upd_same]) neT (fun b o hb z => ?_) n0 ?_ q
        · have z' := sx b o hb z
          rw [upd_ne hb, upd_ne (ne_of_none z' nT)]
          exact z'
        · cases h0 : H0 T with
          | none => rfl
          | some o => rw [sx T o neT h0] at nT; cases nT
      obtain ⟨v, H7, I7, r7, ys, hp, hz, n7⟩ := q7
      have I7 := I7.unwish
      obtain ⟨m', hm, w7⟩ := hN _ _ n7
      have ap := mt_append (X := cxC X scope N' s H C fp) ([] ++ pinsAt fp s4.heap) s7 σ5 H7 (.ref p) [v] (.ref p) [u] (fun _ H8 => W (i + 1) m' σ5 H8) I7 rfl (.cons r7 .nil) ⟨p, ys, v, rfl, rfl, hp, hz, w7⟩
      refine wpAny_bind (lift ap fun _ s8 q8 => ?_)
      obtain ⟨_, H8, I8, _, w8⟩ := q8
      exact wpAny_pure (wpAny_pure ⟨rfl, m', hm, again I8 w8⟩)
theorem comp_blockE {E0 : XK} {RR : Value → Addr → Result → Shared → Prop} {pins : List (Addr × Obj)} {σ : St} {H : Hp} {s : Shared} {it : Addr} {fp : List Addr} {tn : Nat → Heap → Prop} {J : It} {Q : Addr → Hp → Prop} {E : Value → Shared → Prop}
    (hc : X.calm = true) (S : CompSc X scope N' fm) (hg : ∀ s H C fp, PG (cxC X scope N' s H C fp) tg g) (ht : ∀ s H C fp, PIfs (cxC X scope N' s H C fp) ifs tt) (he : ∀ s H C fp, PE ((cxC X scope N' s H C fp).wish (LiesE (cxC X scope N' s H C fp) E0)) elt te)
    (T : Turn X.prog X.w X.K tg J fp it tn) (I : Inv X pins σ H s) (st : tn 0 s.heap) (hf : ∀ b ∈ fp, FpOk X pins H b)
    (blk : ∀ p, H p = none → tBlk J p g tt te (seeσ fm σ) (upd H p (.lst [])) (Q p))
    (hR : ∀ p C H' s' (m : Str → Option Value), s'.heap.Ns C m → (∀ h', Heap.SameBut C s'.heap h' → Inv X pins σ H' { s' with heap := h' }) → FpOk X pins H' C → Q p H' → Inv X pins σ H' s' → RR (.ref p) C (.ok .next) s')
    (hst : X.stack = X.env :: X.outer) (hL : X.env.frame = some X.env.locals)
    (hE : ∀ p C s' (m : Str → Option Value) H' ea K' dx T fl H0, s'.heap.Ns C m → (∀ h', Heap.SameBut C s'.heap h' → Inv X pins σ H' { s' with heap := h' }) → H' ea = some (XO K' (some dx) (.ref T) ea) → H' T = some (TB fl T) → T ≠ ea → SameX ea H0 H' → H0 ea = none → H0 T = none → E0 (.ref K') (some dx) H0 → RR (.ref p) C (.error (.ref ea)) s') :
    wpAny (model X.prog X.w) X.A (newList []) (fun acc s₃ => wpAny (model X.prog X.w) X.A (newFunctionEnv scope X.env.globals (clOf scope X.env) [] X.env.qual none .none (some X.env)) (fun cenv s₄ =>
      codeAny (model X.prog X.w) X.A (.compStart (.ListComp elt [⟨tg, iter, ifs, 0⟩] scope pos) 0 (.ref it) acc { cenv with scope := relabel scope X.env }) (RR acc cenv.locals) s₄) E s₃) E s := by
  have I1 : Inv X pins σ (upd H s.heap.objs.size (.lst [])) { s with heap := s.heap.push { cls := .type "list", data := .seq ([] : List Value).toArray } } := I.lnew (t' := s.toks) .nil (Nat.zero_le _)
  have hb := blk _ I.fresh
  refine wpAny_newObj_type (wpAny_newFunctionEnv S.cell (by intro y hy; simp at hy) (fun h1 hn1 hs1 => ?_) S.kind)
  dsimp only at hn1 hs1 ⊢
  generalize hq : s.heap.push { cls := .type "list", data := .seq ([] : List Value).toArray } = h2 at hn1 hs1 I1 ⊢
  have sz : h2.objs.size = s.heap.objs.size + 1 := by rw [← hq, Heap.size_push]
  have old : ∀ b o, h2.get? b = some o → h1.get? b = some o := fun b o e => hs1.extBut b o (Nat.ne_of_lt (Heap.lt_size e)) (Heap.get?_push_of_some _ e)
  have old0 : ∀ b o, s.heap.get? b = some o → h2.get? b = some o := fun b o e => hq ▸ Heap.get?_push_of_some _ e
  have lt0 : ∀ b ∈ fp, b < s.heap.objs.size := fun b hb => by
    obtain ⟨o, e, _⟩ := T.obj _ _ st b hb
    exact Heap.lt_size e
  have hf1 : ∀ b ∈ fp, FpOk X pins (upd H s.heap.objs.size (.lst [])) b := fun b hb => by
    obtain ⟨f0, f⟩ := hf b hb
    exact ⟨by rw [upd_ne (Nat.ne_of_lt (lt0 b hb))]; exact f0, f⟩
  have lt2 : ∀ b ∈ fp, b < h2.objs.size := fun b hb => by rw [sz]; exact Nat.lt_succ_of_lt (lt0 b hb)
  have J0 := comp_start (s := { s with heap := h2 }) (h' := h1) (tk := s.toks) (fp := fp) S I1 hf1 lt2 hn1 old
  have st1 : tn 0 h1 := T.keep _ _ _ st fun b _ o e => old b o (old0 b o e)
  have fpok : ∀ {H' : Hp}, (∀ b ∈ fp, H' b = none) → ∀ b ∈ fp, FpOk (cxC X scope N' { s with heap := h2 } (upd H s.heap.objs.size (.lst [])) h2.objs.size fp) [] H' b := fun {H'} hn b hb => by
    refine ⟨hn b hb, Nat.ne_of_lt (lt2 b hb), fun z => ?_, .inl hb, fun x c e z => ?_, fun p hp => absurd (show p ∈ ([] : List (Addr × Obj)) from hp) (by simp)⟩
    · rcases List.mem_cons.mp (I.stkSub b z) with q | q
      · exact (hf b hb).2.1 q
      · exact (hf b hb).2.2.1 q
    · exact (hf b hb).2.2.2.2.1 x c (S.look I e).1 z
  have loop := comp_loopE (E := E0) (iter := iter) (pos := pos) (R := RR (.ref s.heap.objs.size) h2.objs.size) (σ := σ) (pins := pins) hc (hg _ _ _ _) (ht _ _ _ _) (he _ _ _ _) T fpok J0 st1 (fun b hb => (hf1 b hb).1) hb (fun σ' H' s' Jv qv => by
    obtain ⟨m, hm, _⟩ := Jv.loc
    exact hR _ _ H' s' m hm (fun h' sb => comp_back (s := { s with heap := h2 }) I1 hf1 Jv rfl Jv.bare sb) (I1.fpOk (Nat.le_refl _) Jv.free) qv (comp_back (s := { s with heap := h2 }) I1 hf1 Jv rfl Jv.bare (Heap.SameBut.refl ..))) hst hL
    fun p1 σ' H' s' ea K' dx T fl H0 Jv a1 a2 a3 a4 a5 a6 a7 => by
      obtain ⟨m, hm, _⟩ := Jv.loc
      exact hE _ _ s' m H' ea K' dx T fl H0 hm (fun h' sb => comp_back (s := { s with heap := h2 }) I1 hf1 Jv rfl Jv.bare sb) a1 a2 a3 a4 a5 a6 a7
  exact codeAny_compStart_list loop (T.self _ 0 _ _ _ st1 loop)
def XeOk (X : Cx) (E : XK) : Prop := ∀ (pins : List (Addr × Obj)) (σ : St) (H : Hp) (s : Shared) (ea C dx T : Addr) (fl : Value) (H0 : Hp), Inv X pins σ H s → H ea = some (XO C (some dx) (.ref T) ea) → H T = some (TB fl T) → T ≠ ea → SameX ea H0 H → H0 ea = none → H0 T = none → E (.ref C) (some dx) H0 → X.xe (.ref ea) s
theorem pe_compE {E : XK} (hX : XeOk X E) (hst : X.stack = X.env :: X.outer) (hL : X.env.frame = some X.env.locals) (hc : X.calm = true) (S : CompSc X scope N' fm) (hi : PI X tg iter wi) (hg : ∀ s H C fp, PG (cxC X scope N' s H C fp) tg g) (ht : ∀ s H C fp, PIfs (cxC X scope N' s H C fp) ifs tt)
    (he : ∀ s H C fp, PE ((cxC X scope N' s H C fp).wish (LiesE (cxC X scope N' s H C fp) E)) elt te) (hs : ∀ x, foldedSetIterable iter X.env x = pure x := by intro _; rfl) :
    PE X (.ListComp elt [⟨tg, iter, ifs, 0⟩] scope pos) (tComp fm wi g tt te) := by
  intro pins s σ H Q I h
  rw [eval_ListComp]
  refine wpAny_comprehension_free (use := none) rfl hs (closure_run (S.cells I)) S.kind S.names (thn (hi pins s σ H _ I h) fun v s1 h1 => thn h1 fun itv s2 h2 => ?_)
  obtain ⟨it, fp, tn, J, H2, e, I2, T, st2, f2, blk⟩ := h2
  subst e
  refine comp_blockE (E0 := E) (RR := fun acc C => compPost (model X.prog X.w) X.A X.xe none (EP X pins σ Q) acc C) (Q := fun p H' => Q (.ref p) H') hc S hg ht he T I2 st2 f2 blk ?_ hst hL ?_
  · intro p C H' s' m hm back _ q _
    exact ⟨m, hm, fun h' sb => ⟨.ref p, H', back h' sb, rfl, q⟩⟩
  · intro p C s' m H' ea K' dx T fl H0 hm back e1 eT neT sx n0 nT q
    refine ⟨m, hm, fun h' sb cenv _ => ?_⟩
    have J := back h' sb
    obtain ⟨a0, qe⟩ := XO.at J.hok e1
    obtain ⟨oT, ts, qT, dT, t3⟩ := TB.at J.hok eT
    have h3 : 3 < ts.size := (Array.getElem?_eq_some_iff.mp t3).1
    unfold PySem.passOn
    refine wpAny_bind (wpAny_field qe (x := .ref T) rfl rfl ?_)
    rw [if_neg (show ¬ (Value.ref T == Value.none) = true by simp)]
    refine wpAny_bind ?_
    unfold setFlight
    refine wpAny_bind (wpAny_field qe (x := .ref T) rfl rfl ?_)
    rw [if_pos (show (Value.ref T != Value.none) = true by simp)]
    refine wpAny_setField qT dT h3 ?_
    have J2 := J.tset (v := Option.elim cenv.frame Value.none fun f => rawInt f) eT qT dT h3
    refine wpAny_throw ?_
    refine hX pins σ _ _ ea K' dx T _ H0 J2 (by rw [upd_ne (Ne.symm neT)]; exact e1) upd_same neT (fun b o hb z => ?_) n0 nT q
    rw [upd_ne (fun w => by rw [w, nT] at z; cases z)]
    exact sx b o hb z
theorem xe_of {P : Program} {w : World} {K : PySem.W.Frag} {mg : Str → Option Value} {base : Heap} {N : List Str} {qual : Str} {scope : Scope} {f : Addr} {cd : Value} {A : Around} {outer : List Env} {s : Shared} {H : Hp} {E : XK} :
    XeOk (cxOf (CXE P w) P w K mg base N qual scope f cd A outer s H E) E := by
  intro pins σ H2 s2 ea C dx T fl H0 J e1 eT neT sx n0 nT q
  refine leave_any (X := cxOf (CXE P w) P w K mg base N qual scope f cd A outer s H E) rfl rfl J e1 eT neT fun s3 T' H3 J3 e3 eT3 sx3 => ?_
  exact ⟨ea, C, dx, .ref T', H0, H3, rfl, J3.os, J3.bare, J3.base, J3.hok, e3, .inr ⟨T', rfl, eT3⟩, fun b o hb z => sx3 b o hb (fun w => by rw [w, nT] at z; cases z) (sx b o hb z), n0, q⟩
end
end L2
set_option Elab.async false
set_option linter.all false
set_option maxRecDepth 100000
set_option maxHeartbeats 1000000
namespace K44
open PySem L2
abbrev s_rword : Stmt := top 13
abbrev s_rwords : Stmt := top 12
section
variable {P : Program} {w : World} {K : PySem.W.Frag} {mg : Str → Option Value} {base : Heap} {W BC fW fC : Addr} {gW gC : FuncData}
def spRword (BC : Addr) : Sp := fun vs H Q E => ∃ (x : Str) (b : Bool), vs = [.str x, .str (kdS b)] ∧ x.length ≤ 100000 ∧ (∀ k H', readW b x = some k → Same H H' → Q (kV k) H') ∧ (readW b x = none → Ref H E BC "bad text")
abbrev N_rw : List Str := ["word", "kind"]
abbrev P_rw : List Str := ["word", "kind"]
theorem sc_rw : FnScope N_rw P_rw (defScope s_rword) := ⟨rfl, rfl, rfl, by decide +kernel, rfl, by decide +kernel, by decide +kernel⟩
theorem ok_rword {f fn fa : Addr} {fd gn ga : FuncData} (D : Df K mg "read_word" s_rword P_rw f fd) (Dn : Df K mg "is_number" s_isnumber P_nu fn gn) (Gn : FnOk P w K mg base (CXE P w) 2 fn gn P_nu spNum)
    (Da : Df K mg "is_name" s_isname P_na fa ga) (Ga : FnOk P w K mg base (CXE P w) 2 fa ga P_na spName) (B : Bt mg) (T : Xs K mg W BC fW fC gW gC) : FnOk P w K mg base (CXE P w) 4 f fd P_rw (spRword BC) := by
  refine D.F.okE sc_rw (fun vs H Q E h => ?_) (fun cdv A outer s H vs Q E hr h => ?_)
  · obtain ⟨x, b, rfl, _⟩ := h
    rfl
  · obtain ⟨x, b, rfl, hx, k1, k2⟩ := h
    refine ⟨_, pss_cons (ps_if (PW.pt (pw_and (pt_cmpR op_eq (pv 1) pe_str (nomark _)) (pw_and1 (pt_val (pe_fn Dn Gn (hr.mono (by decide)) passN (pa_cons (pv 0) pa_nil)))))) (pss_one (ps_ret (pe_callTy call_int_text (by rfl) B.int (by rfl) (pa_cons (pv 0) pa_nil)))) pss_nil)
      (pss_cons (ps_if (PW.pt (pw_and (pt_cmpR op_eq (pv 1) pe_str (nomark _)) (pw_and1 (pt_val (pe_fn Da Ga (hr.mono (by decide)) passN (pa_cons (pv 0) pa_nil)))))) (pss_one (ps_ret (pv 0))) pss_nil)
      (pss_one (ps_raise rfl passE (pe_xmake0 T.kC T.iC (ok_cinit T) (hr.mono (by decide)) (by rfl) T.mC T.bC passE)))), ?_⟩
    cases b with
    | true =>
      refine ⟨_, rfl, rfl, _, rfl, iteT ⟨_, rfl, x, rfl, hx, fun H1 s1 => ⟨_, rfl, ite2 (fun c => ?_) (fun c => ?_)⟩⟩⟩
      · obtain ⟨e, l⟩ := num_val c
        exact ⟨_, rfl, x, _, rfl, e, by omega, k1 (.inl (valN x)) H1 (if_pos c) s1⟩
      · exact ⟨_, rfl, rfl, _, rfl, iteF fun ea he => ((k2 (if_neg c)).same s1).raise T.kC he⟩
    | false =>
      refine ⟨_, rfl, rfl, _, rfl, iteF ⟨_, rfl, rfl, _, rfl, iteT ⟨_, rfl, x, rfl, hx, fun H1 s1 => ⟨_, rfl, ite2 (fun c => ?_) (fun c => ?_)⟩⟩⟩⟩
      · exact ⟨_, rfl, k1 (.inr x) H1 (if_pos c) s1⟩
      · exact fun ea he => ((k2 (if_neg c)).same s1).raise T.kC he
def spRwords (K : PySem.W.Frag) (BC : Addr) : Sp := fun vs H Q E => ∃ (l : Addr) (y : V) (ws : List Str) (fo : Option (List Bool)), vs = [.ref l, y] ∧ SqL K H l (ws.map V.str) ∧ (∀ x ∈ ws, x.length ≤ 100000) ∧ ws.length ≤ 200000 ∧
  (fo = none → y = .non) ∧ (∀ bs, fo = some bs → bs.length ≤ 5 ∧ ∃ a, y = .ref a ∧ SqT K H a (bs.map fun b => V.str (kdS b))) ∧
  (∀ ks t H', readF fo ws = some ks → Same H H' → H t = none → H' t = some (.tup (ks.map kV)) → Q (.ref t) H') ∧ (readF fo ws = none → Ref H E BC "bad text")
abbrev N_rs : List Str := ["words", "kinds"]
abbrev P_rs : List Str := ["words", "kinds"]
theorem sc_rs : FnScope N_rs P_rs (defScope s_rwords) := ⟨rfl, rfl, rfl, by decide +kernel, rfl, by decide +kernel, by decide +kernel⟩
abbrev N_rs1 : List Str := ["word", "kind"]
theorem nd_rs1 : N_rs1.Nodup := by decide +kernel
theorem ok_rwords {f fr : Addr} {fd gr : FuncData} (D : Df K mg "read_words" s_rwords P_rs f fd) (Dr : Df K mg "read_word" s_rword P_rw fr gr) (Gr : FnOk P w K mg base (CXE P w) 4 fr gr P_rw (spRword BC)) (B : Bt mg) (T : Xs K mg W BC fW fC gW gC) : FnOk P w K mg base (CXE P w) 5 f fd P_rs (spRwords K BC) := by
  refine D.F.okE sc_rs (fun vs H Q E h => ?_) (fun cdv A outer s H vs Q E hr h => ?_)
  · obtain ⟨l, y, ws, fo, rfl, _⟩ := h
    rfl
  · obtain ⟨l, y, ws, fo, rfl, hl, hx, hw, f1, f2, k1, k2⟩ := h
    refine ⟨_, pss_cons (ps_if (PW.pt (pw_or (pt_cmp (pc_isN (pv 1))) (pw_or1 (pt_cmpR op_ne (pe_callB call_len_seq (by rfl) B.len PySem.boot_len (pa_cons (pv 0) pa_nil)) (pe_op op_add (pe_callB call_len_seq (by rfl) B.len PySem.boot_len (pa_cons (pv 1) pa_nil)) pe_int) (nomark _))))) (pss_one (ps_raise rfl passE (pe_xmake0 T.kC T.iC (ok_cinit T) (hr.mono (by decide)) (by rfl) T.mC T.bC passE))) pss_nil)
      (pss_one (ps_ret (pe_callTy call_tuple_of (by rfl) B.tuple (by rfl) (pa_cons (pe_op op_cat (pe_slice sl_list (pv 0) po_none (po_some pe_int)) (pe_compE xe_of rfl rfl (g := (gTup K 2 (gCons (gName 0) (gCons (gName 1) gNil)))) (N' := N_rs1) (fm := [none, none]) rfl ⟨rfl, by decide +kernel, by decide +kernel, rfl, rfl, rfl⟩ (pi_zipL (by rfl) B.zip (pa_cons (pe_slice sl_list (pv 0) (po_some pe_int) po_none) (pa_cons (pv 1) pa_nil))) (fun _ _ _ _ => (pg_tup rfl (pgs_cons (pg_name (i := 0) nd_rs1 rfl (Or.inl rfl)) (pgs_cons (pg_name (i := 1) nd_rs1 rfl (Or.inl rfl)) pgs_nil)))) (fun _ _ _ _ => pif_nil) (fun _ _ _ _ => (pe_fn Dr Gr (hr.mono (by decide)) (passC rfl rfl) (pa_cons (pv 0) (pa_cons (pv 1) pa_nil)))))) pa_nil)))), ?_⟩
    cases fo with
    | none =>
      obtain rfl := f1 rfl
      exact ⟨_, rfl, _, rfl, iteT (iteT fun ea he => (k2 rfl).raise T.kC he)⟩
    | some bs =>
    obtain ⟨b5, a, rfl, ha⟩ := f2 bs rfl
    refine ⟨_, rfl, _, rfl, ite2 (fun c => ?_) (fun c => ?_)⟩
    · exact absurd (of_decide_eq_true c) (by simp)
    refine ⟨_, rfl, l, _, rfl, .inl hl, _, rfl, a, _, rfl, .inr ha, _, _, rfl, rfl, rfl, _, rfl, ite2 (fun d => ?_) (fun d => ?_)⟩
    · refine fun ea he => (k2 ?_).raise T.kC he
      cases ws with
      | nil => rfl
      | cons h t =>
        refine if_neg fun z => ?_
        revert d
        simp [z]
    have w0 : ws ≠ [] := fun z => by
      subst z
      apply d
      simp
      omega
    obtain ⟨h, t, rfl⟩ := List.exists_cons_of_ne_nil w0
    have tl : t.length = bs.length := by
      simp at d
      omega
    have k1 : ∀ ks tp H', readL t bs = some ks → Same H H' → H tp = none → H' tp = some (.tup ((Sum.inr h :: ks : List Key).map kV)) → Q (.ref tp) H' := fun ks tp H' e => k1 (Sum.inr h :: ks) tp H' (by
      show (if t.length = bs.length then (readL t bs).map (Sum.inr h :: ·) else none) = _
      rw [if_pos tl, e]; rfl)
    have k2 : readL t bs = none → Ref H E BC "bad text" := fun e => k2 (by
      show (if t.length = bs.length then (readL t bs).map (Sum.inr h :: ·) else none) = _
      rw [if_pos tl, e]; rfl)
    refine ⟨_, rfl, _, rfl, l, _, rfl, hl, fun p1 n1 => ?_⟩
    have ex : (h :: t).map V.str = V.str h :: t.map V.str := rfl
    have s1 : Same H (upd H p1 (.lst (cutV ((h :: t).map V.str) none (some 1)))) := Same.new n1
    refine ⟨_, rfl, _, rfl, l, _, rfl, s1.seq hl, fun p2 n2 => ?_⟩
    have s2 := s1.trans' (Same.new (o := .lst (cutV ((h :: t).map V.str) (some 1) none)) n2)
    refine ⟨_, rfl, p2, a, rfl, ⟨_, SqL.of upd_same⟩, ⟨_, s2.seqT ha⟩, fun p hp => ?_⟩
    have e1 : cutV ((h :: t).map V.str) none (some 1) = [V.str h] := cut_to _ 1
    have e2 : cutV ((h :: t).map V.str) (some 1) none = t.map V.str := cut_from _ 1
    rw [e1, e2] at hp s2 ⊢
    have q1 : (upd (upd H p1 (.lst [V.str h])) p2 (.lst (t.map V.str))) p1 = some (.lst [V.str h]) := by
      rw [upd_ne (ne_of_none upd_same n2), upd_same]
    have q2 : (upd (upd H p1 (.lst [V.str h])) p2 (.lst (t.map V.str))) p2 = some (.lst (t.map V.str)) := upd_same
    generalize (upd (upd H p1 (.lst [V.str h])) p2 (.lst (t.map V.str))) = H0 at *
    have rdy : readL t bs = none → Ref H0 E BC "bad text" := fun e => (k2 e).same s2
    refine blk_zipL (K := K) (xs := t.map V.str) (ys := bs.map fun b => V.str (kdS b)) (fun i σ H2 => ∃ u v, σ = [u, v] ∧ Same H0 H2 ∧ H2 p = some (.lst ((List.range i).map (rdV t bs))) ∧ ∀ j, j < i → (rdO t bs j).isSome = true)
      ⟨none, none, rfl, Same.new hp, upd_same, fun j hj => by omega⟩ (by rw [List.length_map, List.length_map]; omega) (fun i σ H2 ⟨_, _, _, s3, _⟩ => ⟨s3.seq (SqL.of q2), s3.seqT (s2.seqT ha)⟩) ?_ ?_
    · rintro i T x y σ H2 hi hj nT ⟨u, v, rfl, s3, e3, al⟩
      rw [List.getElem?_map] at hi hj
      cases z1 : t[i]? with
      | none => rw [z1] at hi; cases hi
      | some x0 =>
      cases z2 : bs[i]? with
      | none => rw [z2] at hj; cases hj
      | some b0 =>
      rw [z1] at hi
      rw [z2] at hj
      cases hi
      cases hj
      have il : i < t.length := (List.getElem?_eq_some_iff.mp z1).1
      have sT : Same H0 (upd H2 T (.tup [V.str x0, V.str (kdS b0)])) := s3.trans' (Same.new nT)
      have pT : p ≠ T := ne_of_none e3 nT
      refine turn_all2 (SqT.of upd_same) ⟨_, rfl, _, rfl, x0, b0, rfl, hx x0 (List.mem_cons_of_mem _ (List.mem_of_getElem? z1)), fun k H3 hk s4 => ?_, fun hk => ?_⟩
      · have ek : rdO t bs i = some k := (rdO_at z1 z2).trans hk
        have e4 : H3 p = some (.lst ((List.range i).map (rdV t bs))) := s4 _ _ (by rw [upd_ne pT]; exact e3)
        refine ⟨_, e4, small_rng _ _ (by omega), _, _, rfl, Same.grow hp (sT.trans' s4), ?_, fun j hj => ?_⟩
        · rw [upd_same, ← map_snoc]
          have : rdV t bs i = kV k := by unfold rdV; rw [ek]; rfl
          rw [this]
        · by_cases c : j < i
          · exact al j c
          · have : j = i := by omega
            rw [this, ek]; rfl
      · refine (rdy ?_).same sT
        unfold readL
        refine if_neg fun z => ?_
        have := List.all_eq_true.mp z i (List.mem_range.mpr il)
        rw [rdO_at z1 z2, hk] at this
        cases this
    · rintro σ H2 ⟨u, v, rfl, s3, e3, al⟩
      rw [List.length_map] at e3 al
      have hpn := hp
      refine ⟨_, _, _, _, rfl, rfl, s3 _ _ q1, e3, ?_, fun p3 n3 => ⟨p3, _, rfl, .inl ⟨SqL.of upd_same, fun tp nt => ?_⟩⟩⟩
      · rw [List.length_singleton, List.length_map, List.length_range]
        exact Nat.le_trans (show 1 + t.length ≤ 10 by omega) (by decide)
      refine k1 _ tp _ (readL_all al) ?_ ?_ ?_
      · exact ((s2.trans' s3).trans' (Same.new n3)).trans' (Same.new nt)
      · exact same_none (s2.trans' s3) (same_none (Same.new n3) nt)
      · rw [upd_same, List.map_cons, rdV_map al]
        rfl
end
end K44
set_option Elab.async false
set_option linter.all false
set_option maxRecDepth 100000
set_option maxHeartbeats 1000000
namespace K44
open PySem L2
abbrev s_rdeed : Stmt := top 11
abbrev s_ltext : Stmt := top 25
theorem part_le : ∀ (ws : List Str) (p : Str), p ∈ ws → p.length ≤ (Str.join " " ws).length
  | [x], p, h => by
    rw [List.mem_singleton.mp h]; exact Nat.le_refl _
  | x :: y :: r, p, h => by
    have e : (Str.join " " (x :: y :: r)).length = x.length + 1 + (Str.join " " (y :: r)).length := by
      show (x.cps ++ #[32] ++ (Str.join " " (y :: r)).cps).size = _
      rw [Array.size_append, Array.size_append]
      rfl
    rcases List.mem_cons.mp h with z | z
    · rw [z, e]; omega
    · have := part_le (y :: r) p z
      omega
theorem many_le : ∀ (ws : List Str), ws.length ≤ (Str.join " " ws).length + 1
  | [] => by simp
  | [x] => by simp
  | x :: y :: r => by
    have e : (Str.join " " (x :: y :: r)).length = x.length + 1 + (Str.join " " (y :: r)).length := by
      show (x.cps ++ #[32] ++ (Str.join " " (y :: r)).cps).size = _
      rw [Array.size_append, Array.size_append]
      rfl
    have := many_le (y :: r)
    simp only [List.length_cons] at this ⊢
    omega
def rdM (ws : List Str) : Option (List Key) := readF (formOf (ws.headD "")) ws
section
variable {P : Program} {w : World} {K : PySem.W.Frag} {mg : Str → Option Value} {base : Heap} {W BC fW fC : Addr} {gW gC : FuncData}
def spRdeed (BC : Addr) : Sp := fun vs H Q E => ∃ (x : Str), vs = [.str x] ∧ x.length ≤ 100000 ∧
  (∀ ks t H', rdM (Txt.split x " ") = some ks → Same H H' → H t = none → H' t = some (.tup (ks.map kV)) → Q (.ref t) H') ∧ (rdM (Txt.split x " ") = none → Ref H E BC "bad text")
abbrev N_rd : List Str := ["text", "words"]
abbrev P_rd : List Str := ["text"]
theorem sc_rd : FnScope N_rd P_rd (defScope s_rdeed) := ⟨rfl, rfl, rfl, by decide +kernel, rfl, by decide +kernel, by decide +kernel⟩
theorem ok_rdeed {f fs : Addr} {fd gs : FuncData} (D : Df K mg "read_deed" s_rdeed P_rd f fd) (Ds : Df K mg "read_words" s_rwords P_rs fs gs) (Gs : FnOk P w K mg base (CXE P w) 5 fs gs P_rs (spRwords K BC)) (M : Gm P w K mg) : FnOk P w K mg base (CXE P w) 6 f fd P_rd (spRdeed BC) := by
  refine D.F.okE sc_rd (fun vs H Q E h => ?_) (fun cdv A outer s H vs Q E hr h => ?_)
  · obtain ⟨x, rfl, _⟩ := h
    rfl
  · obtain ⟨x, rfl, hx, k1, k2⟩ := h
    obtain ⟨dF, kvs, mF, kd, fk⟩ := M.forms
    refine ⟨_, pss_cons (ps_set (i := 1) sc_rd.nd rfl (Or.inl rfl) (pe_bm PySem.F.plainAttrs_str PySem.F.slot_str_split PySem.F.type_str_split mt_split (pv 0) (pa_cons pe_str pa_nil)))
      (pss_one (ps_ret (pe_fn Ds Gs (hr.mono (by decide)) passE (pa_cons (pv 1) (pa_cons (pe_kget (pe_glob (v := .ref dF) (by rfl) mF rfl) (pe_ix ix_list (pv 1) pe_int (fun _ _ => rfl)) ⟨rfl, rfl, rfl, rfl⟩) pa_nil))))), ?_⟩
    have j := StrLaws.join_split x " "
    have wl : ∀ p ∈ Txt.split x " ", p.length ≤ 100000 := fun p hp => by
      have := part_le _ p hp
      rw [j] at this
      omega
    have wm : (Txt.split x " ").length ≤ 200000 := by
      have := many_le (Txt.split x " ")
      rw [j] at this
      omega
    have w0 := split_ne x " "
    refine ⟨_, rfl, rfl, x, rfl, rfl, hx, fun l nl => ?_⟩
    generalize Txt.split x " " = ws at *
    obtain ⟨h, t, rfl⟩ := List.exists_cons_of_ne_nil w0
    have s1 : Same H (upd H l (.lst ((h :: t).map V.str))) := Same.new nl
    refine ⟨_, rfl, dF, kvs, rfl, kd, _, rfl, l, _, _, _, rfl, rfl, SqL.of upd_same, atI_nat (j := 0) rfl, .inr h, rfl, ?_⟩
    refine ⟨l, _, h :: t, formOf h, rfl, SqL.of upd_same, wl, wm, fun e => ?_, fun bs e => ?_, fun ks tp H' e s2 n2 e2 => ?_, fun e => (k2 e).same s1⟩
    · rw [(fk h).1 e]; rfl
    · obtain ⟨a, e1, e2⟩ := (fk h).2 bs e
      exact ⟨form_le e, a, by rw [e1]; rfl, e2 _⟩
    · exact k1 ks tp H' e (s1.trans' s2) (same_none s1 n2) e2
def Small (ks : List Key) : Prop := ks.length ≤ 10 ∧ ∀ k ∈ ks, (kT k).length ≤ 100 ∧ ∀ i, k = .inl i → i.natAbs.log2 < 1920
def spText (K : PySem.W.Frag) : Sp := fun vs H Q _ => ∃ (p : Addr) (ks : List Key), vs = [.ref p] ∧ SqT K H p (ks.map kV) ∧ Small ks ∧ ∀ H', Same H H' → Q (.str (Txt.join " " (ks.map kT))) H'
abbrev N_lt : List Str := ["_law_deed"]
abbrev P_lt : List Str := ["_law_deed"]
theorem sc_lt : FnScope N_lt P_lt (defScope s_ltext) := ⟨rfl, rfl, rfl, by decide +kernel, rfl, by decide +kernel, by decide +kernel⟩
abbrev N_lt1 : List Str := ["_law_part"]
theorem nd_lt1 : N_lt1.Nodup := by decide +kernel
theorem sum_le {l : List Nat} {m : Nat} (h : ∀ x ∈ l, x ≤ m) : l.sum ≤ m * l.length := by
  induction l with
  | nil => simp
  | cons x r ih =>
    have h1 := h x (by simp)
    have h2 := ih fun y hy => h y (by simp [hy])
    rw [List.sum_cons, List.length_cons, Nat.mul_succ]
    omega
theorem ok_ltext {f : Addr} {fd : FuncData} (D : Df K mg "_law_text" s_ltext P_lt f fd) (B : Bt mg) : FnOk P w K mg base (CXE P w) 1 f fd P_lt (spText K) := by
  refine D.F.okN sc_lt (fun vs H Q E h => ?_) (fun cdv A outer s H vs Q E hr h => ?_)
  · obtain ⟨p, ks, rfl, _⟩ := h
    rfl
  · obtain ⟨p, ks, rfl, hp, ⟨sm1, sm2⟩, k⟩ := h
    refine ⟨_, pss_one (ps_ret (pe_bm PySem.F.plainAttrs_str PySem.F.slot_str_join PySem.F.type_str_join mt_join pe_str (pa_cons (pe_comp (N' := N_lt1) (fm := [none]) rfl ⟨rfl, by decide +kernel, by decide +kernel, rfl, rfl, rfl⟩ (pi_tup (pv 0)) (fun _ _ _ _ => (pg_name (i := 0) nd_lt1 rfl (Or.inl rfl))) (fun _ _ _ _ => pif_nil) (fun _ _ _ _ => (pe_callTy (call_str_int.or call_str_str) (by rfl) B.str (by rfl) (pa_cons (pv 0) pa_nil)))) pa_nil))), ?_⟩
    refine ⟨rfl, _, rfl, p, rfl, ⟨_, hp⟩, fun q nq => ?_⟩
    refine blk_tup (K := K) (xs := ks.map kV) (fun i σ H2 => ∃ u, σ = [u] ∧ Same H H2 ∧ H2 q = some (.lst (((ks.take i).map kT).map V.str))) ⟨none, rfl, Same.new nq, upd_same⟩ (fun i σ H2 _ ⟨_, _, s2, _⟩ => s2.seqT hp) ?_ ?_
    · rintro i x σ H2 hi ⟨u, rfl, s2, e2⟩
      rw [List.getElem?_map] at hi
      cases z : ks[i]? with
      | none => rw [z] at hi; cases hi
      | some k0 =>
      rw [z] at hi
      cases hi
      have il := (List.getElem?_eq_some_iff.mp z).1
      have fin : ∃ ys, H2 q = some (.lst ys) ∧ ys.length < sizeLine ∧ ∃ u, [some (kV k0)] = [u] ∧ Same H (upd H2 q (.lst (ys ++ [V.str (kT k0)]))) ∧ (upd H2 q (.lst (ys ++ [V.str (kT k0)]))) q = some (.lst (((ks.take (i + 1)).map kT).map V.str)) := by
        refine ⟨_, e2, ?_, _, rfl, Same.grow nq s2, ?_⟩
        · rw [List.length_map, List.length_map, List.length_take]
          exact Nat.lt_of_le_of_lt (show _ ≤ 10 by omega) (by decide)
        · rw [upd_same, List.take_add_one, z]
          simp
      have sk := sm2 k0 (List.mem_of_getElem? z)
      cases k0 with
      | inl n => exact turn_all ⟨_, rfl, .inl ⟨n, rfl, sk.2 n rfl, fin⟩⟩
      | inr x => exact turn_all ⟨_, rfl, .inr ⟨x, rfl, fin⟩⟩
    · rintro σ H2 ⟨u, rfl, s2, e2⟩
      rw [List.length_map, List.take_of_length_le (Nat.le_refl _)] at e2
      refine ⟨_, q, _, rfl, rfl, SqL.of e2, by decide, ?_, k H2 s2⟩
      have h1 : ((ks.map kT).map (·.length)).sum ≤ 100 * ((ks.map kT).map (·.length)).length := sum_le fun x hx => by
        obtain ⟨y, hy, rfl⟩ := List.mem_map.mp hx
        obtain ⟨k, hk, rfl⟩ := List.mem_map.mp hy
        exact (sm2 k hk).1
      rw [List.length_map, List.length_map] at h1
      rw [List.length_map]
      omega
end
end K44
set_option Elab.async false
set_option linter.all false
set_option maxRecDepth 100000
set_option maxHeartbeats 4000000
namespace L2
open PySem PySem.Spec PyProof.Rows
section
variable {X : Cx} {pos : Pos}
end
section
variable {K : PySem.W.Frag} {T p : Addr} {te : TE} {N : St → Hp → Prop} {σ : St} {H : Hp} {x y z u : V}
end
end L2
set_option Elab.async false
set_option linter.all false
set_option maxRecDepth 100000
set_option maxHeartbeats 4000000
namespace L2
open PySem PySem.Spec PyProof.Rows
section
variable {P : Program} {w : World} {K : PySem.W.Frag}
end
section
variable {X : Cx}
end
section
variable {g : TG} {tb : TS} {D : Ends} {σ : St} {H : Hp} {x : Str}
end
section
variable {p : Addr} {g : TG} {tt : TT} {te : TE} {Q : Hp → Prop} {σ0 : St} {H0 : Hp} {x : Str}
end
end L2
set_option Elab.async false
set_option linter.all false
set_option maxRecDepth 100000
set_option maxHeartbeats 4000000
namespace L2
open PySem PySem.Spec PyProof.Rows
abbrev TBd := St → Hp → (St → Hp → Prop) → Prop
section
variable {X : Cx} {elt iter tg : Expr} {gens : List Comprehension} {scope : Scope} {cpos : Pos} {ifs : List Expr} {d : Nat} {ip : Pos} {act : Sem Unit} {g : TG} {tt : TT} {tb : TBd} {te : TE} {acc : Value}
end
section
variable {X : Cx} {elt iter tg : Expr} {ifs : List Expr} {rest : List Comprehension} {scope : Scope} {pos : Pos} {N' : List Str} {fm : List (Option Nat)} {wi : TI} {g : TG} {tt : TT} {tb : Addr → TBd}
end
section
variable {K : PySem.W.Frag} {g : TG} {tt : TT} {tb : TBd} {σ0 : St} {H0 : Hp} {Q : St → Hp → Prop} {x : Str}
end
end L2
set_option Elab.async false
set_option linter.all false
set_option maxRecDepth 100000
set_option maxHeartbeats 4000000
namespace L2
open PySem PySem.Spec PyProof.Rows
section
variable {X : Cx} {o : Expr} {td : TE} {p apos cpos pos : Pos}
end
end L2
set_option Elab.async false
set_option linter.all false
set_option maxRecDepth 100000
set_option maxHeartbeats 1000000
namespace L2
open PySem PySem.W
def ch (x : Str) (i : Nat) : Nat := x.cps.getD i 0
structure Row (n : Nat) (x : Str) : Prop where
  len : x.length = n
  bin : ∀ i, i < n → ch x i = 121 ∨ ch x i = 110
structure Kept (rs : List Str) (c : List (Str × Int)) : Prop where
  nd : (c.map (·.1)).Nodup
  look : ∀ x, kprLook c x 0 = (rs.count x : Nat)
  pos : ∀ p ∈ c, 0 < p.2
  sum : kprSum c = (rs.length : Nat)
theorem Kept.nil : Kept [] [] := ⟨List.nodup_nil, fun _ => rfl, fun _ h => (by cases h), rfl⟩
theorem look_mem : ∀ {c : List (Str × Int)} {x : Str}, kprHas c x = true → ∃ p ∈ c, p.1 = x ∧ kprLook c x 0 = p.2
  | [], _, h => by cases h
  | p :: r, x, h => by
    rw [kpr_look_cons]
    by_cases e : p.1 = x
    · exact ⟨p, List.mem_cons_self, e, if_pos e⟩
    · rw [kpr_has_cons, decide_eq_false e, Bool.false_or] at h
      obtain ⟨q, hq, e1, e2⟩ := look_mem h
      exact ⟨q, List.mem_cons_of_mem _ hq, e1, by rw [if_neg e]; exact e2⟩
theorem Kept.has {rs : List Str} {c : List (Str × Int)} (h : Kept rs c) (x : Str) : kprHas c x = true ↔ x ∈ rs := by
  have l := h.look x
  constructor
  · intro y
    obtain ⟨p, hp, _, e2⟩ := look_mem y
    have := h.pos p hp
    exact List.count_pos_iff.mp (by omega)
  · intro y
    cases z : kprHas c x with
    | true => rfl
    | false =>
      rw [kpr_look_none z 0] at l
      have := List.count_pos_iff.mpr y
      omega
def cntB (rs : List Str) (q a r b : Nat) : Nat := rs.countP fun x => decide (ch x q = a ∧ ch x r = b)
def bk (q a r b : Nat) : List Key := [.inl q, .inr ⟨#[a]⟩, .inl r, .inr ⟨#[b]⟩]
theorem bk_eq {q a r b q' a' r' b' : Nat} : bk q a r b = bk q' a' r' b' ↔ q = q' ∧ a = a' ∧ r = r' ∧ b = b' := by
  constructor
  · intro h
    injection h with h1 h
    injection h with h2 h
    injection h with h3 h
    injection h with h4 h
    injection h1 with h1
    injection h2 with h2
    injection h3 with h3
    injection h4 with h4
    have e2 : a = a' := by injection h2 with h2; simpa using h2
    have e4 : b = b' := by injection h4 with h4; simpa using h4
    exact ⟨by omega, e2, by omega, e4⟩
  · rintro ⟨rfl, rfl, rfl, rfl⟩
    rfl
def Both (n : Nat) (f : Nat → Nat → Nat → Nat → Int) (bvs : List (List Key × V)) : Prop := ∀ q a r b, q < n → r < n → (valV bvs (bk q a r b)).getD (.int 0) = .int (f q a r b)
theorem Both.nil {n : Nat} : Both n (fun _ _ _ _ => 0) [] := fun _ _ _ _ _ _ => rfl
theorem Both.congr {n : Nat} {f g : Nat → Nat → Nat → Nat → Int} {bvs : List (List Key × V)} (h : Both n f bvs) (e : ∀ q a r b, q < n → r < n → f q a r b = g q a r b) : Both n g bvs := fun q a r b hq hr => by rw [h q a r b hq hr, e q a r b hq hr]
def tlF (f : Nat → Nat → Nat → Nat → Int) (x : Str) (by' : Int) (i j : Nat) (q a r b : Nat) : Int := f q a r b + if (q < i ∨ (q = i ∧ r < j)) ∧ ch x q = a ∧ ch x r = b then by' else 0
theorem Both.step {n : Nat} {f : Nat → Nat → Nat → Nat → Int} {x : Str} {d : Int} {i j : Nat} {bvs : List (List Key × V)} (h : Both n (tlF f x d i j) bvs) (hi : i < n) (hj : j < n) :
    ∃ v : Int, (valV bvs (bk i (ch x i) j (ch x j))).getD (.int 0) = .int v ∧ Both n (tlF f x d i (j + 1)) (putK bvs (bk i (ch x i) j (ch x j)) (.int (v + d))) := by
  refine ⟨_, h i (ch x i) j (ch x j) hi hj, fun q a r b hq hr => ?_⟩
  rw [valV_put]
  by_cases e : bk q a r b = bk i (ch x i) j (ch x j)
  · rw [if_pos e]
    obtain ⟨rfl, rfl, rfl, rfl⟩ := bk_eq.mp e
    show V.int _ = _
    congr 1
    unfold tlF
    rw [if_neg (by omega), if_pos ⟨.inr ⟨rfl, by omega⟩, rfl, rfl⟩]
    omega
  · rw [if_neg e, h q a r b hq hr]
    congr 1
    unfold tlF
    congr 1
    have : ((q < i ∨ q = i ∧ r < j) ∧ ch x q = a ∧ ch x r = b) ↔ ((q < i ∨ q = i ∧ r < j + 1) ∧ ch x q = a ∧ ch x r = b) := by
      constructor
      · rintro ⟨z, e1, e2⟩
        exact ⟨by omega, e1, e2⟩
      · rintro ⟨z, e1, e2⟩
        refine ⟨?_, e1, e2⟩
        rcases z with z | ⟨z1, z2⟩
        · exact .inl z
        · by_cases e3 : r = j
          · exfalso
            subst z1 e3
            exact e (bk_eq.mpr ⟨rfl, e1.symm, rfl, e2.symm⟩)
          · exact .inr ⟨z1, by omega⟩
    by_cases p : (q < i ∨ q = i ∧ r < j) ∧ ch x q = a ∧ ch x r = b
    · rw [if_pos p, if_pos (this.mp p)]
    · rw [if_neg p, if_neg (fun z => p (this.mpr z))]
theorem Both.turn {n : Nat} {f : Nat → Nat → Nat → Nat → Int} {x : Str} {d : Int} {i : Nat} {bvs : List (List Key × V)} (h : Both n (tlF f x d i n) bvs) : Both n (tlF f x d (i + 1) 0) bvs :=
  h.congr fun q a r b hq hr => by
    unfold tlF
    congr 1
    by_cases p : (q < i ∨ q = i ∧ r < n) ∧ ch x q = a ∧ ch x r = b
    · rw [if_pos p, if_pos ⟨by omega, p.2⟩]
    · rw [if_neg p, if_neg (fun z => p ⟨by omega, z.2⟩)]
theorem Both.start {n : Nat} {f : Nat → Nat → Nat → Nat → Int} {x : Str} {d : Int} {bvs : List (List Key × V)} (h : Both n f bvs) : Both n (tlF f x d 0 0) bvs :=
  h.congr fun q a r b hq hr => by unfold tlF; rw [if_neg (by omega)]; omega
def cntF (rs : List Str) (q a r b : Nat) : Int := (cntB rs q a r b : Nat)
theorem cntB_cons (x : Str) (rs : List Str) (q a r b : Nat) : cntB (x :: rs) q a r b = cntB rs q a r b + if ch x q = a ∧ ch x r = b then 1 else 0 := by
  unfold cntB
  rw [List.countP_cons]
  by_cases h : ch x q = a ∧ ch x r = b <;> simp [h]
theorem Both.take {n : Nat} {rs : List Str} {x : Str} {bvs : List (List Key × V)} (h : Both n (tlF (cntF (x :: rs)) x (-1) n 0) bvs) : Both n (cntF rs) bvs :=
  h.congr fun q a r b hq hr => by
    unfold tlF cntF
    rw [cntB_cons]
    by_cases p : ch x q = a ∧ ch x r = b
    · rw [if_pos p, if_pos ⟨.inl hq, p⟩]; omega
    · rw [if_neg p, if_neg (fun z => p z.2)]; omega
end L2
set_option Elab.async false
set_option linter.all false
set_option maxRecDepth 100000
set_option maxHeartbeats 1000000
namespace L2
open PySem PySem.Spec PyProof.Rows
section
variable {X : Cx}
end
def Tups (H : Hp) (rs : List Addr) (ks : List (List Key)) : Prop := rs.length = ks.length ∧ ∀ (i : Nat) (r : Addr) (k : List Key), rs[i]? = some r → ks[i]? = some k → H r = some (.tup (k.map kV))
theorem Tups.nil {H : Hp} : Tups H [] [] := ⟨rfl, fun _ _ _ h => by cases h⟩
theorem Tups.mono {H H' : Hp} {rs : List Addr} {ks : List (List Key)} (h : Tups H rs ks) (s : Same H H') : Tups H' rs ks := ⟨h.1, fun i r k a b => s _ _ (h.2 i r k a b)⟩
theorem Tups.upd {H : Hp} {rs : List Addr} {ks : List (List Key)} {p : Addr} {ys zs : List V} (h : Tups H rs ks) (hp : H p = some (.lst ys)) : Tups (upd H p (.lst zs)) rs ks := ⟨h.1, fun i r k a b => by
  have e := h.2 i r k a b
  rw [upd_ne]
  · exact e
  · intro z
    rw [z, hp] at e
    cases e⟩
theorem Tups.append {H : Hp} {rs rs' : List Addr} {ks ks' : List (List Key)} (h : Tups H rs ks) (h' : Tups H rs' ks') : Tups H (rs ++ rs') (ks ++ ks') := by
  refine ⟨by rw [List.length_append, List.length_append, h.1, h'.1], fun i r k hr hk => ?_⟩
  by_cases hi : i < rs.length
  · rw [List.getElem?_append_left hi] at hr
    rw [List.getElem?_append_left (by rw [← h.1]; exact hi)] at hk
    exact h.2 i r k hr hk
  · rw [List.getElem?_append_right (by omega)] at hr
    rw [List.getElem?_append_right (by rw [← h.1]; omega), ← h.1] at hk
    exact h'.2 _ r k hr hk
theorem Tups.one {H : Hp} {T : Addr} {k : List Key} (h : H T = some (.tup (k.map kV))) : Tups H [T] [k] := by
  refine ⟨rfl, fun i r k' hr hk => ?_⟩
  cases i with
  | zero => cases hr; cases hk; exact h
  | succ i => cases hr
theorem Tups.snoc {H : Hp} {rs : List Addr} {ks : List (List Key)} {T : Addr} {k : List Key} (h : Tups H rs ks) (hT : H T = some (.tup (k.map kV))) : Tups H (rs ++ [T]) (ks ++ [k]) := h.append (.one hT)
end L2
set_option Elab.async false
set_option linter.all false
set_option maxRecDepth 100000
set_option maxHeartbeats 1000000
namespace L2
open PySem
structure Acc (H0 : Hp) (p : Addr) (H : Hp) (ks : List (List Key)) : Prop where
  same : Same H0 H
  at_ : ∃ rs : List Addr, H p = some (.lst (rs.map V.ref)) ∧ Tups H rs ks
theorem Acc.put {H0 H H1 : Hp} {p T : Addr} {ks : List (List Key)} {k : List Key} (A : Acc H0 p H ks) (hp : H0 p = none) (s : Same H H1) (hT : H1 T = none) : ∃ ys, upd H1 T (.tup (k.map kV)) p = some (.lst ys) ∧ ys.length = ks.length ∧ Acc H0 p (upd (upd H1 T (.tup (k.map kV))) p (.lst (ys ++ [.ref T]))) (ks ++ [k]) := by
  obtain ⟨s0, rs, e, t⟩ := A
  have s1 := s.trans' (Same.new (o := .tup (k.map kV)) hT)
  have e1 := s1 _ _ e
  refine ⟨_, e1, by rw [List.length_map]; exact t.1, Same.grow hp (s0.trans' s1), rs ++ [T], ?_, ?_⟩
  · rw [upd_same, List.map_append]
    rfl
  · have t1 : Tups (upd H1 T (.tup (k.map kV))) (rs ++ [T]) (ks ++ [k]) := (t.mono s1).snoc upd_same
    exact t1.upd e1
theorem Acc.mono {H0 H H1 : Hp} {p : Addr} {ks : List (List Key)} (A : Acc H0 p H ks) (s : Same H H1) : Acc H0 p H1 ks := by
  obtain ⟨s0, rs, e, t⟩ := A
  exact ⟨s0.trans' s, rs, s _ _ e, t.mono s⟩
theorem Acc.back {H0 H1 H : Hp} {p : Addr} {ks : List (List Key)} (A : Acc H1 p H ks) (s : Same H0 H1) : Acc H0 p H ks := ⟨s.trans' A.same, A.at_⟩
theorem Tups.item {H : Hp} {rs : List Addr} {ks : List (List Key)} (h : Tups H rs ks) {i : Nat} {x : V} (hi : (rs.map V.ref)[i]? = some x) : ∃ r k, x = .ref r ∧ ks[i]? = some k ∧ H r = some (.tup (k.map kV)) := by
  rw [List.getElem?_map] at hi
  cases z : rs[i]? with
  | none => rw [z] at hi; cases hi
  | some r =>
    rw [z] at hi
    cases hi
    have il : i < rs.length := (List.getElem?_eq_some_iff.mp z).1
    have e : ks[i]? = some (ks[i]'(by rw [← h.1]; exact il)) := List.getElem?_eq_getElem (by rw [← h.1]; exact il)
    exact ⟨r, _, rfl, e, h.2 i r _ z e⟩
def sk (q a : Nat) : List Key := [.inl q, .inr ⟨#[a]⟩]
structure Pat (n : Nat) (x : Str) : Prop where
  len : x.length = n
  sgn : ∀ i, i < n → ch x i = 121 ∨ ch x i = 110 ∨ ch x i = 45
end L2
set_option Elab.async false
set_option linter.all false
set_option maxRecDepth 100000
set_option maxHeartbeats 1000000
namespace L2
open PySem PySem.Spec PyProof.Rows
section
variable {X : Cx}
def rSlX : V → Option Int → Option Int → Hp → VK → Prop := fun x lo hi H Q => ∃ z, x = .str z ∧ z.length ≤ sizeLine ∧ Q (.str (Txt.slice z lo hi)) H
theorem sl_strX : SlR X rSlX := by
  intro pins s σ H x v vl vu lo hi sl Q I rx hs pl pu h
  obtain ⟨z, rfl, hz, q⟩ := h
  obtain ⟨t, rfl⟩ := rx
  have fin : ∀ (t' k : Nat), EP X pins σ Q (.str (Txt.slice z lo hi) t') { s with toks := k } := fun t' k => ⟨.str _, H, I.tok k, ⟨t', rfl⟩, q⟩
  refine ⟨"str", _, slot_str_getitem.lookup, typeIs_str _ _ _, ?_⟩
  cases pl with
  | none =>
    cases pu with
    | none => exact wpAny_getItem_str_slice (l := none) (u := none) (st := none) hs rfl (post_val_or_str ⟨Nat.le_trans (Txt.slice_le z _ _) hz, fun t' k => fin _ _⟩)
    | int j uj => exact wpAny_getItem_str_slice (l := none) (u := some (j, uj)) (st := none) hs rfl (post_val_or_str ⟨Nat.le_trans (Txt.slice_le z _ _) hz, fun t' k => fin _ _⟩)
  | int i ui =>
    cases pu with
    | none => exact wpAny_getItem_str_slice (l := some (i, ui)) (u := none) (st := none) hs rfl (post_val_or_str ⟨Nat.le_trans (Txt.slice_le z _ _) hz, fun t' k => fin _ _⟩)
    | int j uj => exact wpAny_getItem_str_slice (l := some (i, ui)) (u := some (j, uj)) (st := none) hs rfl (post_val_or_str ⟨Nat.le_trans (Txt.slice_le z _ _) hz, fun t' k => fin _ _⟩)
end
theorem slice_run (x : Str) (l u : Option Int) (a b : Nat) (hb : b ≤ x.length) (e : Builtin.Str.strSliceIndices l u 1 x.length = sliceRange a b 1) : (Txt.slice x l u).cps.toList = (x.cps.toList.drop a).take (b - a) := by
  unfold Txt.slice
  rw [e, sliceRange_one]
  by_cases h : ((1 : Int) == 1 && ((List.range (b - a)).map (a + ·)).length == x.length) = true
  · rw [if_pos h]
    rw [List.length_map, List.length_range] at h
    have h : b - a = x.length := by simpa using h
    have ha : a = 0 ∨ x.length = 0 := by omega
    have hs : x.cps.toList.length = x.length := by simp [Str.length]
    rcases ha with ha | ha
    · subst ha
      rw [List.drop_zero, List.take_of_length_le (by omega)]
    · have : x.cps.toList = [] := List.length_eq_zero_iff.mp (by omega)
      rw [this]; simp
  · rw [if_neg h]
    simp only [pick_run]
theorem slice_lo (x : Str) (q : Nat) (hq : q ≤ x.length) : (Txt.slice x none (some q)).cps.toList = x.cps.toList.take q := by
  rw [slice_run x none (some q) 0 q hq]
  · simp
  · unfold Builtin.Str.strSliceIndices
    simp only [show (1 : Int) > 0 by decide, if_true]
    congr 1
    rw [if_neg (by omega)]
    omega
end L2
set_option Elab.async false
set_option linter.all false
set_option maxRecDepth 100000
set_option maxHeartbeats 1000000
namespace K44
open PySem L2
abbrev s_anyname : Stmt := top 19
abbrev s_anydeed : Stmt := top 21
theorem len_le {n : Nat} (h : n ≤ 100) : n ≤ sizeLine := Nat.le_trans h (by decide)
abbrev lowS : Str := "abcdefghijklmnopqrstuvwxyz"
theorem low_all : ∀ m, m < 26 → (lowS.cps.toList[m]?).any isL = true := by decide +kernel
theorem lowf_all : ∀ m, m < 36 → ((lowS ++ ("0123456789" : Str)).cps.toList[m]?).any (fun c => isL c || isF c) = true := by decide +kernel
theorem low_at {d : Int} (h0 : 0 ≤ d) (h1 : d < 26) : ∃ c, atI lowS.cps.toList d = some c ∧ isL c = true := by
  obtain ⟨m, rfl⟩ := Int.eq_ofNat_of_zero_le h0
  have := low_all m (by omega)
  cases e : lowS.cps.toList[m]? with
  | none => rw [e] at this; cases this
  | some c => rw [e] at this; exact ⟨c, atI_nat e, this⟩
theorem lowf_at {d : Int} (h0 : 0 ≤ d) (h1 : d < 36) : ∃ c, atI (lowS ++ ("0123456789" : Str)).cps.toList d = some c ∧ (isL c || isF c) = true := by
  obtain ⟨m, rfl⟩ := Int.eq_ofNat_of_zero_le h0
  have := lowf_all m (by omega)
  cases e : (lowS ++ ("0123456789" : Str)).cps.toList[m]? with
  | none => rw [e] at this; cases this
  | some c => rw [e] at this; exact ⟨c, atI_nat e, this⟩
theorem name_one {c : Nat} (h : isL c = true) : nameB ⟨#[c]⟩ = true := by
  have e : nameB ⟨#[c]⟩ = (true && (isL c && ((isL c || isF c) && true))) := rfl
  rw [e, h]; rfl
theorem name_snoc {x : Str} {c : Nat} (h : nameB x = true) (hc : (isL c || isF c) = true) (hl : x.length < 12) : nameB (x ++ (⟨#[c]⟩ : Str)) = true := by
  unfold nameB at h ⊢
  simp only [Bool.and_eq_true, decide_eq_true_eq] at h ⊢
  obtain ⟨⟨h1, h2⟩, h3, h4⟩ := h
  have el : (x ++ (⟨#[c]⟩ : Str)).length = x.length + 1 := by
    show (x.cps ++ #[c]).size = _
    rw [Array.size_append]; rfl
  have e0 : (x ++ (⟨#[c]⟩ : Str)).cps.getD 0 0 = x.cps.getD 0 0 := by
    show (x.cps ++ #[c]).getD 0 0 = _
    have : 0 < x.cps.size := h1
    rw [Array.getD_eq_getD_getElem?, Array.getD_eq_getD_getElem?, Array.getElem?_append_left this]
  have ea : (x ++ (⟨#[c]⟩ : Str)).cps.toList = x.cps.toList ++ [c] := by
    show (x.cps ++ #[c]).toList = _
    rw [Array.toList_append]
  rw [el, e0, ea, List.all_append]
  refine ⟨⟨by omega, by omega⟩, h3, ?_⟩
  rw [h4]
  simpa using hc
section
variable {P : Program} {w : World} {K : PySem.W.Frag} {mg : Str → Option Value} {base : Heap}
def spAname : Sp := fun vs H Q _ => ∃ (c : Int) (n : Nat), vs = [.int c, .int n] ∧ 1 ≤ n ∧ n ≤ 12 ∧ ∀ x H', nameB x = true → Same H H' → Q (.str x) H'
abbrev N_an : List Str := ["_law_cell_here", "_law_size", "_law_low", "_law_drawn", "_law_name", "_law_k"]
abbrev P_an : List Str := ["_law_cell_here", "_law_size"]
theorem sc_an : FnScope N_an P_an (defScope s_anyname) := ⟨rfl, rfl, rfl, by decide +kernel, rfl, by decide +kernel, by decide +kernel⟩
abbrev Pdr : List Str := ["_law_cell_here", "_law_parts"]
theorem ok_aname {f fr : Addr} {fd gr : FuncData} (D : Df K mg "_law_any_name" s_anyname P_an f fd) (Dr : Df K mg "_law_draws" s_draws Pdr fr gr) (B : Bt mg) : FnOk P w K mg base (CXE P w) 2 f fd P_an spAname := by
  refine D.F.okN sc_an (fun vs H Q E h => ?_) (fun cdv A outer s H vs Q E hr h => ?_)
  · obtain ⟨c, n, rfl, _⟩ := h
    rfl
  · obtain ⟨c, n, rfl, n1, n12, k⟩ := h
    refine ⟨_, pss_cons (ps_set (i := 2) sc_an.nd rfl (Or.inl rfl) pe_str)
      (pss_cons (ps_set (i := 3) sc_an.nd rfl (Or.inl rfl) (pe_fn Dr (ok_draws Dr B) (hr.mono (by decide)) passN (pa_cons (pv 0) (pa_cons (pe_op op_cat (pe_lst (pa_cons pe_int pa_nil)) (pe_op op_rep (pe_lst (pa_cons pe_int pa_nil)) pe_int)) pa_nil))))
      (pss_cons (ps_set (i := 4) sc_an.nd rfl (Or.inl rfl) (pe_ix ix_str (pv 2) (pe_ix ix_list (pv 3) pe_int (fun _ _ => rfl)) (fun _ _ => rfl)))
      (pss_cons (ps_for PassesOwn.never rfl (pi_range2 (by rfl) B.range (pa_cons pe_int (pa_cons (pv 1) pa_nil))) (pg_name (i := 5) sc_an.nd rfl (Or.inl rfl))
      (pss_one (ps_set (i := 4) sc_an.nd rfl (Or.inl rfl) (pe_op op_add_str (pv 4) (pe_ix ix_str (pe_op op_add_str (pv 2) pe_str) (pe_ix ix_list (pv 3) (pv 5) (fun _ _ => rfl)) (fun _ _ => rfl))))))
      (pss_one (ps_ret (pv 4)))))), ?_⟩
    refine ⟨_, rfl, len_le (show 1 ≤ 100 by decide), fun p1 h1 => ⟨len_le (show 1 ≤ 100 by decide), fun p2 h2 => ?_⟩⟩
    have s2 : Same H (upd (upd H p1 (.lst [.int 26])) p2 (.lst [.int 36])) := (Same.new h1).trans' (Same.new h2)
    refine ⟨p2, 11, _, rfl, rfl, upd_same, by decide, by decide, len_le (by decide), fun p3 h3 => ?_⟩
    refine ⟨p1, p3, [.int 26], _, rfl, rfl, ?_, upd_same, len_le (show 12 ≤ 100 by decide), fun p4 h4 => ?_⟩
    · exact Same.new h3 _ _ (Same.new h2 _ _ upd_same)
    refine ⟨c, p4, [26, 36, 36, 36, 36, 36, 36, 36, 36, 36, 36, 36], rfl, SqL.of upd_same, by decide, by decide, fun q H2 s4 nq e2 => ?_⟩
    have s0 : Same H H2 := ((s2.trans' (Same.new h3)).trans' (Same.new h4)).trans' s4
    have at' : ∀ (i : Nat) (p : Int), ([26, 36, 36, 36, 36, 36, 36, 36, 36, 36, 36, 36] : List Int)[i]? = some p → ∃ d, atI ((drawsM c [26, 36, 36, 36, 36, 36, 36, 36, 36, 36, 36, 36]).map V.int) (i : Int) = some (.int d) ∧ 0 ≤ d ∧ d < p := fun i p hp => by
      obtain ⟨d, e, b1, b2⟩ := go_at [26, 36, 36, 36, 36, 36, 36, 36, 36, 36, 36, 36] (mixM c) i p (by decide) hp
      exact ⟨d, atI_nat (by rw [List.getElem?_map]; unfold drawsM; rw [e]; rfl), b1, b2⟩
    obtain ⟨d0, e0, a0, b0⟩ := at' 0 26 rfl
    obtain ⟨c0, f0, g0⟩ := low_at a0 b0
    refine ⟨_, rfl, _, rfl, q, _, _, _, rfl, rfl, SqL.of e2, e0, _, _, _, rfl, rfl, by decide, f0, ?_⟩
    refine ⟨_, rfl, _, _, rfl, ⟨by decide, by decide, by omega, by omega⟩, ?_⟩
    have en : ((n : Int) - 1).toNat = n - 1 := by omega
    rw [en]
    refine for_range (fun i σ H3 => ∃ x v, σ = [some (.int c), some (.int n), some (.str lowS), some (.ref q), some (.str x), v] ∧ nameB x = true ∧ x.length = i + 1 ∧ H3 = H2) ⟨_, none, rfl, name_one g0, rfl, rfl⟩ ?_ ?_
    · rintro i σ H3 hi ⟨x, v, rfl, nx, lx, rfl⟩
      have ei : (1 : Int) + (i : Int) = ((i + 1 : Nat) : Int) := by omega
      have hi' : i + 1 < 12 := by omega
      obtain ⟨d, e, a1, b1⟩ := at' (i + 1) 36 (by
        have : ∀ j, j < 11 → ([26, 36, 36, 36, 36, 36, 36, 36, 36, 36, 36, 36] : List Int)[j + 1]? = some 36 := by decide
        exact this i (by omega))
      obtain ⟨c2, f2, g2⟩ := lowf_at a1 b1
      rw [ei]
      refine ⟨_, rfl, _, rfl, _, _, rfl, rfl, by decide, _, rfl, _, rfl, q, _, _, _, rfl, rfl, SqL.of e2, e, _, _, _, rfl, rfl, by decide, f2, _, _, rfl, rfl, ?_, ?_⟩
      · show x.length + 1 ≤ sizeLine
        exact len_le (show x.length + 1 ≤ 100 by omega)
      refine ⟨_, _, rfl, name_snoc nx g2 (by omega), ?_, rfl⟩
      show (x.cps ++ #[c2]).size = _
      rw [Array.size_append]
      show x.length + 1 = _
      omega
    · rintro σ H3 ⟨x, v, rfl, nx, lx, rfl⟩
      exact ⟨_, rfl, k x H3 nx s0⟩
end
end K44
set_option Elab.async false
set_option linter.all false
set_option maxRecDepth 100000
set_option maxHeartbeats 1000000
namespace K44
open PySem L2
def Oks : List Bool → List Key → Prop
  | [], [] => True
  | b :: r, k :: s => OkK b k ∧ Oks r s
  | _, _ => False
theorem Oks.len : ∀ {bs : List Bool} {ks : List Key}, Oks bs ks → ks.length = bs.length
  | [], [], _ => rfl
  | _ :: r, _ :: s, h => by rw [List.length_cons, List.length_cons, Oks.len h.2]
  | [], _ :: _, h => h.elim
  | _ :: _, [], h => h.elim
theorem Oks.at : ∀ {bs : List Bool} {ks : List Key}, Oks bs ks → ∀ (i : Nat) (k : Key) (b : Bool), ks[i]? = some k → bs[i]? = some b → OkK b k
  | [], [], _, i, _, _, h, _ => by simp at h
  | _ :: r, _ :: s, h, 0, _, _, h1, h2 => by simp at h1 h2; rw [← h1, ← h2]; exact h.1
  | _ :: r, _ :: s, h, i + 1, k, b, h1, h2 => Oks.at h.2 i k b (by simpa using h1) (by simpa using h2)
  | [], _ :: _, h, _, _, _, _, _ => h.elim
  | _ :: _, [], h, _, _, _, _, _ => h.elim
theorem deed_of {h : Str} {bs : List Bool} {ks : List Key} (e : formOf h = some bs) (o : Oks bs ks) : Deed h ks bs := ⟨e, o.len, o.at⟩
theorem yn_at (x : Int) : ∃ c, atI ("yn" : Str).cps.toList (x % 2) = some c ∧ isL c = true := by
  rcases (show x % 2 = 0 ∨ x % 2 = 1 by omega) with e | e <;> rw [e]
  · exact ⟨121, rfl, rfl⟩
  · exact ⟨110, rfl, rfl⟩
theorem ny_at2 (x : Int) : ∃ c, atI ("ny" : Str).cps.toList (x % 2) = some c ∧ isL c = true := by
  rcases (show x % 2 = 0 ∨ x % 2 = 1 by omega) with e | e <;> rw [e]
  · exact ⟨110, rfl, rfl⟩
  · exact ⟨121, rfl, rfl⟩
theorem ab_at (x : Int) : ∃ c, atI ("ab" : Str).cps.toList (x % 2) = some c ∧ isL c = true := by
  rcases (show x % 2 = 0 ∨ x % 2 = 1 by omega) with e | e <;> rw [e]
  · exact ⟨97, rfl, rfl⟩
  · exact ⟨98, rfl, rfl⟩
def Nu (x : Int) : Prop := 0 ≤ x ∧ x < 1000000000
theorem five_at {v0 v1 v2 v3 v4 d : Int} (h0 : 0 ≤ d) (h1 : d < 5) (a0 : Nu v0) (a1 : Nu v1) (a2 : Nu v2) (a3 : Nu v3) (a4 : Nu v4) : ∃ v, atI [V.int v0, .int v1, .int v2, .int v3, .int v4] d = some (.int v) ∧ Nu v := by
  rcases (show d = 0 ∨ d = 1 ∨ d = 2 ∨ d = 3 ∨ d = 4 by omega) with rfl | rfl | rfl | rfl | rfl
  · exact ⟨_, rfl, a0⟩
  · exact ⟨_, rfl, a1⟩
  · exact ⟨_, rfl, a2⟩
  · exact ⟨_, rfl, a3⟩
  · exact ⟨_, rfl, a4⟩
theorem bits_name {n : Nat} {c : Nat → Nat} (h1 : 1 ≤ n) (h2 : n ≤ 12) (hb : Bin c) : nameB (tx n c) = true := by
  unfold nameB
  simp only [Bool.and_eq_true, decide_eq_true_eq, tx_len]
  have lt : ∀ i, isL (c i) = true := fun i => by rcases hb i with e | e <;> rw [e] <;> decide
  refine ⟨⟨h1, h2⟩, ?_, ?_⟩
  · have : (tx n c).cps.getD 0 0 = c 0 := by
      show (tx n c).cps.getD 0 0 = _
      unfold tx
      rw [Array.getD_eq_getD_getElem?]
      simp [show 0 < n by omega]
    rw [this]; exact lt 0
  · rw [List.all_eq_true]
    intro x hx
    unfold tx at hx
    simp at hx
    obtain ⟨i, _, rfl⟩ := hx
    rw [lt i]; rfl
abbrev PS : List Int := [7, 12, 13, 8192, 1000000000, 1000000000, 12, 5]
def DM (H : Hp) (c : Int) : St → Hp → Prop := fun σ H' => ∃ q nm rw lo hi a b, σ = [some (.int c), some (.ref q), some (.str nm), some (.str rw), some (.int lo), some (.int hi), some (.str ⟨#[a, b]⟩)] ∧ nameB nm = true ∧ nameB rw = true ∧ Nu lo ∧ Nu hi ∧ isL a = true ∧ isL b = true ∧
  Same H H' ∧ H' q = some (.lst ((drawsM c PS).map V.int))
section
variable {P : Program} {w : World} {K : PySem.W.Frag} {mg : Str → Option Value} {base : Heap}
def spAdeed : Sp := fun vs H Q _ => ∃ (c : Int), vs = [.int c] ∧ ∀ h ks bs t H', Deed h ks bs → Same H H' → H t = none → H' t = some (.tup ((Sum.inr h :: ks : List Key).map kV)) → Q (.ref t) H'
abbrev N_ad : List Str := ["_law_cell_here", "_law_drawn", "_law_name", "_law_row", "_law_low", "_law_high", "_law_signs"]
abbrev P_ad : List Str := ["_law_cell_here"]
theorem sc_ad : FnScope N_ad P_ad (defScope s_anydeed) := ⟨rfl, rfl, rfl, by decide +kernel, rfl, by decide +kernel, by decide +kernel⟩
abbrev Pb : List Str := ["_law_number_here", "_law_n"]
theorem ok_adeed {f fr fn fb : Addr} {fd gr gn gb : FuncData} (D : Df K mg "_law_any_deed" s_anydeed P_ad f fd) (Dr : Df K mg "_law_draws" s_draws Pdr fr gr) (Dn : Df K mg "_law_any_name" s_anyname P_an fn gn) (Gn : FnOk P w K mg base (CXE P w) 2 fn gn P_an spAname)
    (Db : Df K mg "_law_bits" s_bits Pb fb gb) (B : Bt mg) : FnOk P w K mg base (CXE P w) 3 f fd P_ad spAdeed := by
  refine D.F.okN sc_ad (fun vs H Q E h => ?_) (fun cdv A outer s H vs Q E hr h => ?_)
  · obtain ⟨c, rfl, _⟩ := h
    rfl
  · obtain ⟨c, rfl, k⟩ := h
    refine ⟨_, pss_cons (ps_set (i := 1) sc_ad.nd rfl (Or.inl rfl) (pe_fn Dr (ok_draws Dr B) (hr.mono (by decide)) passN (pa_cons (pv 0) (pa_cons (pe_lst (pa_cons pe_int (pa_cons pe_int (pa_cons pe_int (pa_cons pe_int (pa_cons (pe_op op_pow pe_int pe_int) (pa_cons (pe_op op_pow pe_int pe_int) (pa_cons pe_int (pa_cons pe_int pa_nil))))))))) pa_nil))))
      (pss_cons (ps_set (i := 2) sc_ad.nd rfl (Or.inl rfl) (pe_fn Dn Gn (hr.mono (by decide)) passN (pa_cons (pe_op op_add (pv 0) pe_int) (pa_cons (pe_op op_add pe_int (pe_ix ix_list (pv 1) pe_int (fun _ _ => rfl))) pa_nil))))
      (pss_cons (ps_set (i := 3) sc_ad.nd rfl (Or.inl rfl) (pe_fn Db (ok_bits Db B) (hr.mono (by decide)) passN (pa_cons (pe_ix ix_list (pv 1) pe_int (fun _ _ => rfl)) (pa_cons (pe_op op_add pe_int (pe_ix ix_list (pv 1) pe_int (fun _ _ => rfl))) pa_nil))))
      (pss_cons (ps_set (i := 4) sc_ad.nd rfl (Or.inl rfl) (pe_ix ix_list (pe_lst (pa_cons (pe_ix ix_list (pv 1) pe_int (fun _ _ => rfl)) (pa_cons (pe_op op_mod (pe_ix ix_list (pv 1) pe_int (fun _ _ => rfl)) pe_int) (pa_cons pe_int (pa_cons (pe_op op_mod (pe_ix ix_list (pv 1) pe_int (fun _ _ => rfl)) pe_int) (pa_cons pe_int pa_nil)))))) (pe_ix ix_list (pv 1) pe_int (fun _ _ => rfl)) (fun _ _ => rfl)))
      (pss_cons (ps_set (i := 5) sc_ad.nd rfl (Or.inl rfl) (pe_ix ix_list (pe_lst (pa_cons (pe_op op_mod (pe_ix ix_list (pv 1) pe_int (fun _ _ => rfl)) pe_int) (pa_cons (pe_ix ix_list (pv 1) pe_int (fun _ _ => rfl)) (pa_cons (pe_op op_mod (pe_ix ix_list (pv 1) pe_int (fun _ _ => rfl)) pe_int) (pa_cons pe_int (pa_cons pe_int pa_nil)))))) (pe_op op_mod (pe_ix ix_list (pv 1) pe_int (fun _ _ => rfl)) pe_int) (fun _ _ => rfl)))
      (pss_cons (ps_set (i := 6) sc_ad.nd rfl (Or.inl rfl) (pe_op op_add_str (pe_ix ix_str pe_str (pe_op op_mod (pe_ix ix_list (pv 1) pe_int (fun _ _ => rfl)) pe_int) (fun _ _ => rfl)) (pe_ix ix_str pe_str (pe_op op_mod (pe_ix ix_list (pv 1) pe_int (fun _ _ => rfl)) pe_int) (fun _ _ => rfl))))
      (pss_cons (ps_cut (DM H c) (ps_if (pt_cmpR op_eq (pe_ix ix_list (pv 1) pe_int (fun _ _ => rfl)) pe_int (nomark _)) (pss_cons (ps_set (i := 3) sc_ad.nd rfl (Or.inl rfl) (pe_fn Dn Gn (hr.mono (by decide)) passN (pa_cons (pe_op op_add (pv 0) pe_int) (pa_cons (pe_op op_add pe_int (pe_ix ix_list (pv 1) pe_int (fun _ _ => rfl))) pa_nil))))
      (pss_one (ps_set (i := 6) sc_ad.nd rfl (Or.inl rfl) (pe_op op_add_str (pe_slice sl_strX (pv 3) po_none (po_some pe_int)) (pe_ix ix_str pe_str (pe_op op_mod (pe_ix ix_list (pv 1) pe_int (fun _ _ => rfl)) pe_int) (fun _ _ => rfl)))))) pss_nil))
      (pss_cons (ps_if (pt_cmpR op_lt (pe_ix ix_list (pv 1) pe_int (fun _ _ => rfl)) pe_int (nomark _)) (pss_one (ps_ret (pe_ix ix_list (pe_lst (pa_cons (pe_tup (pa_cons pe_str (pa_cons (pv 2) (pa_cons (pv 3) pa_nil)))) (pa_cons (pe_tup (pa_cons pe_str (pa_cons (pv 2) pa_nil))) pa_nil))) (pe_ix ix_list (pv 1) pe_int (fun _ _ => rfl)) (fun _ _ => rfl)))) pss_nil)
      (pss_cons (ps_if (pt_cmpR op_eq (pe_ix ix_list (pv 1) pe_int (fun _ _ => rfl)) pe_int (nomark _)) (pss_one (ps_ret (pe_tup (pa_cons pe_str (pa_cons (pv 2) (pa_cons (pv 4) (pa_cons (pe_ix ix_str (pv 6) pe_int (fun _ _ => rfl)) pa_nil))))))) pss_nil)
      (pss_cons (ps_if (pt_cmpR op_eq (pe_ix ix_list (pv 1) pe_int (fun _ _ => rfl)) pe_int (nomark _)) (pss_one (ps_ret (pe_tup (pa_cons pe_str (pa_cons (pv 2) (pa_cons (pv 4) (pa_cons (pe_ix ix_str (pv 6) pe_int (fun _ _ => rfl)) (pa_cons (pv 5) (pa_cons (pe_ix ix_str (pv 6) pe_int (fun _ _ => rfl)) pa_nil))))))))) pss_nil)
      (pss_cons (ps_if (pt_cmpR op_eq (pe_ix ix_list (pv 1) pe_int (fun _ _ => rfl)) pe_int (nomark _)) (pss_one (ps_ret (pe_tup (pa_cons pe_str (pa_cons (pv 2) (pa_cons (pv 4) pa_nil)))))) pss_nil)
      (pss_one (ps_ret (pe_ifExp (pt_cmpR op_eq (pe_ix ix_list (pv 1) pe_int (fun _ _ => rfl)) pe_int (nomark _)) (pe_tup (pa_cons pe_str (pa_cons (pv 3) pa_nil))) (pe_tup (pa_cons pe_str (pa_cons (pv 4) pa_nil)))))))))))))))), ?_⟩
    refine ⟨_, rfl, _, _, rfl, rfl, ⟨by decide, by decide, by decide⟩, _, _, rfl, rfl, ⟨by decide, by decide, by decide⟩, len_le (show 8 ≤ 100 by decide), fun p1 h1 => ?_⟩
    refine ⟨c, p1, PS, rfl, SqL.of upd_same, by decide, by decide, fun q H2 s2 nq e2 => ?_⟩
    have s0 : Same H H2 := (Same.new h1).trans' s2
    have at' : ∀ (i : Nat) (p : Int), PS[i]? = some p → ∃ d : Nat, atI ((drawsM c PS).map V.int) (i : Int) = some (.int d) ∧ (d : Int) < p := fun i p hp => by
      obtain ⟨d, e, b1, b2⟩ := go_at PS (mixM c) i p (by decide) hp
      obtain ⟨m, rfl⟩ := Int.eq_ofNat_of_zero_le b1
      exact ⟨m, atI_nat (by rw [List.getElem?_map]; unfold drawsM; rw [e]; rfl), b2⟩
    obtain ⟨d0, f0, b0⟩ := at' 0 7 rfl
    obtain ⟨d1, f1, b1⟩ := at' 1 12 rfl
    obtain ⟨d2, f2, b2⟩ := at' 2 13 rfl
    obtain ⟨d3, f3, b3⟩ := at' 3 8192 rfl
    obtain ⟨d4, f4, b4⟩ := at' 4 1000000000 rfl
    obtain ⟨d5, f5, b5⟩ := at' 5 1000000000 rfl
    obtain ⟨d6, f6, b6⟩ := at' 6 12 rfl
    obtain ⟨d7, f7, b7⟩ := at' 7 5 rfl
    refine ⟨_, rfl, _, _, rfl, rfl, _, rfl, q, _, _, _, rfl, rfl, SqL.of e2, f1, _, _, rfl, rfl, c + 1, 1 + d1, rfl, by omega, by omega, fun nm H3 hnm s3 => ?_⟩
    have e3 := s3 _ _ e2
    refine ⟨_, rfl, q, _, _, _, rfl, rfl, SqL.of e3, f3, _, rfl, q, _, _, _, rfl, rfl, SqL.of e3, f6, _, _, rfl, rfl, (d3 : Int), 1 + d6, rfl, by omega, ?_⟩
    refine ⟨_, rfl, q, _, _, _, rfl, rfl, SqL.of e3, f4, _, rfl, q, _, _, _, rfl, rfl, SqL.of e3, f4, _, _, rfl, rfl, (by show (0 : Int) < 13; decide), _, rfl, q, _, _, _, rfl, rfl, SqL.of e3, f4, _, _, rfl, rfl, (by show (0 : Int) < 1000; decide), len_le (show 5 ≤ 100 by decide), fun pl hpl => ?_⟩
    obtain ⟨lo, elo, nlo⟩ := five_at (v0 := d4) (v1 := (d4 : Int) % 13) (v2 := 0) (v3 := (d4 : Int) % 1000) (v4 := 999999999) (d := d7) (by omega) b7 ⟨by omega, by omega⟩ ⟨by omega, by omega⟩ ⟨by omega, by omega⟩ ⟨by omega, by omega⟩ ⟨by omega, by omega⟩
    have s4 := s3.trans' (Same.new (o := .lst [.int d4, .int ((d4 : Int) % 13), .int 0, .int ((d4 : Int) % 1000), .int 999999999]) hpl)
    have e4 := s4 _ _ e2
    refine ⟨_, rfl, q, _, _, _, rfl, rfl, SqL.of e4, f7, pl, _, _, _, rfl, rfl, SqL.of upd_same, elo, ?_⟩
    generalize hH4 : upd H3 pl (.lst [.int d4, .int ((d4 : Int) % 13), .int 0, .int ((d4 : Int) % 1000), .int 999999999]) = H4 at *
    refine ⟨_, rfl, q, _, _, _, rfl, rfl, SqL.of e4, f5, _, _, rfl, rfl, (by show (0 : Int) < 13; decide), _, rfl, q, _, _, _, rfl, rfl, SqL.of e4, f5, _, rfl, q, _, _, _, rfl, rfl, SqL.of e4, f5, _, _, rfl, rfl, (by show (0 : Int) < 100; decide), len_le (show 5 ≤ 100 by decide), fun ph hph => ?_⟩
    obtain ⟨hi, ehi, nhi⟩ := five_at (v0 := (d5 : Int) % 13) (v1 := (d5 : Int)) (v2 := (d5 : Int) % 100) (v3 := 0) (v4 := 10) (d := (d2 : Int) % 5) (by omega) (by omega) ⟨by omega, by omega⟩ ⟨by omega, by omega⟩ ⟨by omega, by omega⟩ ⟨by omega, by omega⟩ ⟨by omega, by omega⟩
    have s5 := s4.trans' (Same.new (o := .lst [.int ((d5 : Int) % 13), .int d5, .int ((d5 : Int) % 100), .int 0, .int 10]) hph)
    have e5 := s5 _ _ e2
    refine ⟨_, rfl, q, _, _, _, rfl, rfl, SqL.of e5, f2, _, _, rfl, rfl, (by show (0 : Int) < 5; decide), ph, _, _, _, rfl, rfl, SqL.of upd_same, ehi, ?_⟩
    generalize hH5 : upd H4 ph (.lst [.int ((d5 : Int) % 13), .int d5, .int ((d5 : Int) % 100), .int 0, .int 10]) = H5 at *
    obtain ⟨a, ea, la⟩ := yn_at (d3 : Int)
    obtain ⟨b, eb, lb⟩ := ny_at2 (d5 : Int)
    have s05 : Same H H5 := s0.trans' s5
    refine ⟨_, rfl, q, _, _, _, rfl, rfl, SqL.of e5, f3, _, _, rfl, rfl, (by show (0 : Int) < 2; decide), _, _, _, rfl, rfl, by decide, ea, _, rfl, q, _, _, _, rfl, rfl, SqL.of e5, f5, _, _, rfl, rfl, (by show (0 : Int) < 2; decide), _, _, _, rfl, rfl, by decide, eb, _, _, rfl, rfl, len_le (show 2 ≤ 100 by decide), ?_⟩
    refine ⟨?_, ?_⟩
    · refine ⟨_, rfl, q, _, _, _, rfl, rfl, SqL.of e5, f2, rfl, _, rfl, ite2 (fun z => ?_) (fun z => ?_)⟩
      · refine ⟨_, rfl, _, _, rfl, rfl, _, rfl, q, _, _, _, rfl, rfl, SqL.of e5, f6, _, _, rfl, rfl, c + 2, 1 + d6, rfl, by omega, by omega, fun rw' H6 hrw s6 => ?_⟩
        have e6 := s6 _ _ e5
        obtain ⟨b', eb', lb'⟩ := ab_at (d3 : Int)
        have hr' := hrw
        unfold nameB at hr'
        simp only [Bool.and_eq_true, decide_eq_true_eq] at hr'
        obtain ⟨⟨r1, r12⟩, r0, _⟩ := hr'
        have es : Txt.slice rw' none (some 1) = ⟨#[rw'.cps.getD 0 0]⟩ := by
          refine list_inj ?_
          rw [show Txt.slice rw' none (some 1) = Txt.slice rw' none (some ((1 : Nat) : Int)) from rfl, slice_lo rw' 1 r1]
          have := sg_at (x := rw') (i := 0) (by omega)
          rw [← Array.getElem?_toList] at this
          cases h : rw'.cps.toList with
          | nil => rw [h] at this; cases this
          | cons y r => rw [h] at this; simp at this; simp [this]
        refine ⟨_, rfl, _, rfl, _, rfl, len_le (by omega), ?_⟩
        rw [es]
        refine ⟨_, rfl, q, _, _, _, rfl, rfl, SqL.of e6, f3, _, _, rfl, rfl, (by show (0 : Int) < 2; decide), _, _, _, rfl, rfl, by decide, eb', _, _, rfl, rfl, len_le (show 2 ≤ 100 by decide), ?_⟩
        exact ⟨q, nm, rw', lo, hi, _, _, rfl, hnm, hrw, nlo, nhi, r0, lb', s05.trans' s6, e6⟩
      · exact ⟨q, nm, _, lo, hi, _, _, rfl, hnm, bits_name (by omega) (by omega) (bit_bin _), nlo, nhi, la, lb, s05, e5⟩
    · clear elo ehi ea eb la lb nlo nhi hnm
      rintro σ' H' ⟨q, nm, rw', lo, hi, a, b, rfl, hnm, hrw, nlo, nhi, la, lb, s', e'⟩
      have na := name_one la
      have nb := name_one lb
      refine ⟨_, rfl, q, _, _, _, rfl, rfl, SqL.of e', f0, _, _, rfl, rfl, _, rfl, ite2 (fun z => ?_) (fun z => ?_)⟩
      · have z : (d0 : Int) < 2 := of_decide_eq_true z
        refine ⟨_, rfl, _, rfl, len_le (show 3 ≤ 100 by decide), fun t1 n1 => ⟨_, rfl, len_le (show 2 ≤ 100 by decide), fun t2 n2 => ⟨len_le (show 2 ≤ 100 by decide), fun p np => ?_⟩⟩⟩
        have sa := (Same.new (o := .tup [.str "come", .str nm, .str rw']) n1)
        have sb := (Same.new (o := .tup [.str "leave", .str nm]) n2)
        have sc := (Same.new (o := .lst [.ref t1, .ref t2]) np)
        have sd := sa.trans' (sb.trans' sc)
        refine ⟨_, rfl, q, _, _, _, rfl, rfl, SqL.of (sd _ _ e'), f0, ?_⟩
        rcases (show (d0 : Int) = 0 ∨ (d0 : Int) = 1 by omega) with e | e <;> rw [e]
        · exact ⟨p, _, _, _, rfl, rfl, SqL.of upd_same, rfl, k "come" [.inr nm, .inr rw'] [false, false] t1 _ (deed_of (by decide +kernel) ⟨hnm, hrw, trivial⟩) (s'.trans' sd) (same_none s' n1) (sc _ _ (sb _ _ upd_same))⟩
        · exact ⟨p, _, _, _, rfl, rfl, SqL.of upd_same, rfl, k "leave" [.inr nm] [false] t2 _ (deed_of (by decide +kernel) ⟨hnm, trivial⟩) (s'.trans' sd) (same_none s' (same_none sa n2)) (sc _ _ upd_same)⟩
      have z : ¬ (d0 : Int) < 2 := fun y => z (decide_eq_true y)
      refine ⟨_, rfl, q, _, _, _, rfl, rfl, SqL.of e', f0, rfl, _, rfl, ite2 (fun z => ?_) (fun z => ?_)⟩
      · refine ⟨_, rfl, _, rfl, _, rfl, _, _, _, rfl, rfl, len_le (show 2 ≤ 100 by decide), (show _ = some a from rfl), len_le (show 4 ≤ 100 by decide), fun t1 n1 => ?_⟩
        exact k "turn" [.inr nm, .inl lo, .inr ⟨#[a]⟩] [false, true, false] t1 _ (deed_of (by decide +kernel) ⟨hnm, nlo, na, trivial⟩) (s'.trans' (Same.new n1)) (same_none s' n1) upd_same
      refine ⟨_, rfl, q, _, _, _, rfl, rfl, SqL.of e', f0, rfl, _, rfl, ite2 (fun z => ?_) (fun z => ?_)⟩
      · refine ⟨_, rfl, _, rfl, _, rfl, _, _, _, rfl, rfl, len_le (show 2 ≤ 100 by decide), (show _ = some a from rfl), _, rfl, _, rfl, _, _, _, rfl, rfl, len_le (show 2 ≤ 100 by decide), (show _ = some b from rfl), len_le (show 6 ≤ 100 by decide), fun t1 n1 => ?_⟩
        exact k "swear" [.inr nm, .inl lo, .inr ⟨#[a]⟩, .inl hi, .inr ⟨#[b]⟩] [false, true, false, true, false] t1 _ (deed_of (by decide +kernel) ⟨hnm, nlo, na, nhi, nb, trivial⟩) (s'.trans' (Same.new n1)) (same_none s' n1) upd_same
      refine ⟨_, rfl, q, _, _, _, rfl, rfl, SqL.of e', f0, rfl, _, rfl, ite2 (fun z => ?_) (fun z => ?_)⟩
      · refine ⟨_, rfl, _, rfl, len_le (show 3 ≤ 100 by decide), fun t1 n1 => ?_⟩
        exact k "recant" [.inr nm, .inl lo] [false, true] t1 _ (deed_of (by decide +kernel) ⟨hnm, nlo, trivial⟩) (s'.trans' (Same.new n1)) (same_none s' n1) upd_same
      refine ⟨_, rfl, q, _, _, _, rfl, rfl, SqL.of e', f0, rfl, _, rfl, ite2 (fun z => ?_) (fun z => ?_)⟩
      · refine ⟨_, rfl, len_le (show 2 ≤ 100 by decide), fun t1 n1 => ?_⟩
        exact k "enter" [.inr rw'] [false] t1 _ (deed_of (by decide +kernel) ⟨hrw, trivial⟩) (s'.trans' (Same.new n1)) (same_none s' n1) upd_same
      · refine ⟨_, rfl, len_le (show 2 ≤ 100 by decide), fun t1 n1 => ?_⟩
        exact k "strike" [.inl lo] [true] t1 _ (deed_of (by decide +kernel) ⟨nlo, trivial⟩) (s'.trans' (Same.new n1)) (same_none s' n1) upd_same
end
end K44
set_option Elab.async false
set_option linter.all false
set_option maxRecDepth 100000
set_option maxHeartbeats 1000000
namespace K44
open PySem L2
open PyProof.Rows (envOfC)
abbrev s_lnum : Stmt := top 22
abbrev s_lname : Stmt := top 23
abbrev s_lreads : Stmt := top 24
theorem fig_list : ("0123456789" : Str).cps.toList = [48, 49, 50, 51, 52, 53, 54, 55, 56, 57] := by decide +kernel
theorem low_list : lowS.cps.toList = [97, 98, 99, 100, 101, 102, 103, 104, 105, 106, 107, 108, 109, 110, 111, 112, 113, 114, 115, 116, 117, 118, 119, 120, 121, 122] := by decide +kernel
theorem fig_in (c : Nat) : (!(Builtin.Str.occurrences ("0123456789" : Str) ⟨#[c]⟩ 0 ("0123456789" : Str).length 1).isEmpty) = isF c := by
  rw [in_one, fig_list]
  unfold isF
  rw [Bool.eq_iff_iff]
  simp
  omega
theorem low_in (c : Nat) : (!(Builtin.Str.occurrences lowS ⟨#[c]⟩ 0 lowS.length 1).isEmpty) = isL c := by
  rw [in_one, low_list]
  unfold isL
  rw [Bool.eq_iff_iff]
  simp
  omega
theorem lowf_in (c : Nat) : (!(Builtin.Str.occurrences (lowS ++ ("0123456789" : Str)) ⟨#[c]⟩ 0 (lowS ++ ("0123456789" : Str)).length 1).isEmpty) = (isL c || isF c) := by
  rw [in_one]
  have e : (lowS ++ ("0123456789" : Str)).cps.toList = lowS.cps.toList ++ ("0123456789" : Str).cps.toList := by
    show (lowS.cps ++ ("0123456789" : Str).cps).toList = _
    rw [Array.toList_append]
  rw [e, low_list, fig_list]
  unfold isL isF
  rw [Bool.eq_iff_iff]
  simp
  omega
def wdV (b : Bool) (x : Str) : V := ((readW b x).map kV).getD .non
theorem wd_num (x : Str) : wdV true x = if numB x = true then .int (valN x) else .non := by
  show (((if numB x = true then some (Sum.inl (valN x) : Key) else none)).map kV).getD V.non = _
  split <;> rfl
theorem wd_name (x : Str) : wdV false x = if nameB x = true then .str x else .non := by
  show (((if nameB x = true then some (Sum.inr x : Key) else none)).map kV).getD V.non = _
  split <;> rfl
theorem nil_iff (x : Str) : decide (V.str x = V.str "") = decide (x.length = 0) := decide_eq_decide.mpr ⟨fun z => by
  have z : x = "" := by injection z
  rw [z]; rfl, fun z => by
  have : x = "" := list_inj (by
    have e : x.cps.toList.length = 0 := by rw [← len_list]; exact z
    rw [List.eq_nil_of_length_eq_zero e]; rfl)
  rw [this]⟩
theorem zero_one {x : Str} (h : x.cps.getD 0 0 = 48) (h1 : 1 ≤ x.length) : x = "0" ↔ ¬ 1 < x.length := by
  refine ⟨fun z => by rw [z]; decide, fun z => ?_⟩
  have e : x.cps.toList.length = 1 := by rw [← len_list]; omega
  refine list_inj ?_
  obtain ⟨y, hy⟩ := List.length_eq_one_iff.mp e
  rw [hy]
  have : x.cps.getD 0 0 = y := by
    rw [Array.getD_eq_getD_getElem?, ← Array.getElem?_toList, hy]; rfl
  rw [← this, h]
  rfl
section
variable {P : Program} {w : World} {K : PySem.W.Frag} {mg : Str → Option Value} {base : Heap}
def spWd (b : Bool) : Sp := fun vs H Q _ => ∃ (x : Str), vs = [.str x] ∧ x.length ≤ 100000 ∧ ∀ H', Same H H' → Q (wdV b x) H'
abbrev N_ln : List Str := ["_law_word_here"]
abbrev P_ln : List Str := ["_law_word_here"]
theorem sc_ln : FnScope N_ln P_ln (defScope s_lnum) := ⟨rfl, rfl, rfl, by decide +kernel, rfl, by decide +kernel, by decide +kernel⟩
abbrev N_ln1 : List Str := ["_law_sign"]
theorem nd_ln1 : N_ln1.Nodup := by decide +kernel
theorem ok_lnum {f : Addr} {fd : FuncData} (D : Df K mg "_law_number" s_lnum P_ln f fd) (B : Bt mg) : FnOk P w K mg base (CXE P w) 1 f fd P_ln (spWd true) := by
  refine D.F.okN sc_ln (fun vs H Q E h => ?_) (fun cdv A outer s H vs Q E hr h => ?_)
  · obtain ⟨x, rfl, _⟩ := h
    rfl
  · obtain ⟨x, rfl, hx, k⟩ := h
    refine ⟨_, pss_cons (ps_if (PW.pt (pw_or (pt_cmpR op_eq (pv 0) pe_str (nomark _)) (pw_or (pt_cmpR op_gt (pe_callB call_len_str (by rfl) B.len PySem.boot_len (pa_cons (pv 0) pa_nil)) pe_int (nomark _)) (pw_or1 (pt_not (pt_val (pe_callB (call_all rfl) (by rfl) B.all (by rfl) (pa_cons (pe_comp (N' := N_ln1) (fm := [none]) rfl ⟨rfl, by decide +kernel, by decide +kernel, rfl, rfl, rfl⟩ (pi_str (pv 0)) (fun _ _ _ _ => (pg_name (i := 0) nd_ln1 rfl (Or.inl rfl))) (fun _ _ _ _ => pif_nil) (fun _ _ _ _ => (pe_cmpR op_in_str (pv 0) pe_str (by rfl)))) pa_nil)))))))) (pss_one (ps_ret pe_non)) pss_nil)
      (pss_one (ps_ret (pe_ifExp (PW.pt (pw_and (pt_cmpR op_eq (pe_ix ix_str (pv 0) pe_int (fun _ _ => rfl)) pe_str (nomark _)) (pw_and1 (pt_cmpR op_gt (pe_callB call_len_str (by rfl) B.len PySem.boot_len (pa_cons (pv 0) pa_nil)) pe_int (nomark _))))) pe_non (pe_callTy call_int_text (by rfl) B.int (by rfl) (pa_cons (pv 0) pa_nil))))), ?_⟩
    have no : ∀ H', Same H H' → numB x = false → Q .non H' := fun H' s' z => by
      have q := k H' s'
      rw [wd_num, if_neg (by rw [z]; simp)] at q
      exact q
    have short : ¬ (1 ≤ x.length ∧ x.length ≤ 9) → numB x = false := fun z => by
      unfold numB
      rw [Bool.and_eq_false_iff]; left
      rw [← Bool.decide_and, decide_eq_false_iff_not]; exact z
    refine ⟨_, rfl, rfl, _, rfl, ?_⟩
    rw [nil_iff]
    refine ite2 (fun c => ?_) (fun c => ?_)
    · have c := of_decide_eq_true c
      exact iteT (no H (Same.refl H) (short (by omega)))
    have c : ¬ x.length = 0 := fun z => c (decide_eq_true z)
    refine ⟨_, rfl, _, rfl, len_ok hx, _, _, rfl, rfl, _, rfl, ite2 (fun d => ?_) (fun d => ?_)⟩
    · have d : (9 : Int) < x.length := of_decide_eq_true d
      exact iteT (no H (Same.refl H) (short (by omega)))
    have d : ¬ (9 : Int) < x.length := fun z => d (decide_eq_true z)
    have e0 : atI x.cps.toList 0 = some (x.cps.getD 0 0) := by
      refine atI_nat (j := 0) ?_
      rw [Array.getElem?_toList]
      exact sg_at (by omega)
    have yes : numB x = (x.cps.toList.all isF && (!decide (x.cps.getD 0 0 = 48) || decide (x = "0"))) := by
      unfold numB
      rw [decide_eq_true (show 1 ≤ x.length by omega), decide_eq_true (show x.length ≤ 9 by omega)]
      rfl
    refine ⟨_, rfl, _, rfl, fun p hp => ?_⟩
    refine blk_str (fun i σ H2 => ∃ u, σ = [u] ∧ Same H H2 ∧ H2 p = some (.lst ((List.range i).map fun j => V.bl (isF (x.cps.getD j 0))))) ⟨none, rfl, Same.new hp, upd_same⟩ ?_ ?_
    · rintro i σ H2 hi ⟨u, rfl, s2, e2⟩
      refine turn_all ⟨_, rfl, _, _, rfl, rfl, _, e2, small_rng _ _ (by omega), _, rfl, Same.grow hp s2, ?_⟩
      rw [upd_same, ← map_snoc, fig_in]
    · rintro σ H2 ⟨u, rfl, s2, e2⟩
      rw [map_bl] at e2
      refine ⟨p, _, rfl, SqL.of e2, _, rfl, ?_⟩
      rw [all_places x isF]
      by_cases al : x.cps.toList.all isF = true
      · rw [al]
        refine iteF ⟨_, rfl, _, _, _, rfl, rfl, len_ok hx, e0, rfl, _, rfl, ?_⟩
        have e1 : decide (V.str ⟨#[x.cps.getD 0 0]⟩ = V.str "0") = decide (x.cps.getD 0 0 = 48) := by
          refine decide_eq_decide.mpr ⟨fun z => ?_, fun z => by rw [z]; rfl⟩
          have z : (⟨#[x.cps.getD 0 0]⟩ : Str) = ⟨#[48]⟩ := by injection z
          have z : #[x.cps.getD 0 0] = #[48] := by injection z
          simpa using z
        have num : (¬ (x.cps.getD 0 0 = 48 ∧ 1 < x.length)) → numB x = true := fun z => by
          rw [yes, al]
          by_cases c0 : x.cps.getD 0 0 = 48
          · rw [decide_eq_true c0, decide_eq_true ((zero_one c0 (by omega)).mpr fun w => z ⟨c0, w⟩)]; rfl
          · rw [decide_eq_false c0]; rfl
        have int : numB x = true → intText? x = some (valN x) ∧ x.length ≤ 640 ∧ Q (.int (valN x)) H2 := fun z => by
          obtain ⟨e, l⟩ := num_val z
          have q := k H2 s2
          rw [wd_num, if_pos z] at q
          exact ⟨e, by omega, q⟩
        rw [e1]
        refine ite2 (fun c0 => ⟨_, rfl, _, rfl, len_ok hx, _, _, rfl, rfl, _, rfl, ite2 (fun c1 => ?_) (fun c1 => ?_)⟩) (fun c0 => iteF ?_)
        · have c0 := of_decide_eq_true c0
          have c1 : (1 : Int) < x.length := of_decide_eq_true c1
          refine no H2 s2 ?_
          rw [yes, decide_eq_true c0, decide_eq_false fun z => (zero_one c0 (by omega)).mp z (by omega)]
          simp
        · have c1 : ¬ (1 : Int) < x.length := fun z => c1 (decide_eq_true z)
          exact ⟨_, rfl, x, _, rfl, int (num fun z => c1 (by omega))⟩
        · exact ⟨_, rfl, x, _, rfl, int (num fun z => c0 (decide_eq_true z.1))⟩
      · rw [Bool.eq_false_iff.mpr al]
        refine iteT (no H2 s2 ?_)
        rw [yes, Bool.eq_false_iff.mpr al]; rfl
abbrev N_la : List Str := ["_law_word_here", "_law_low"]
abbrev P_la : List Str := ["_law_word_here"]
theorem sc_la : FnScope N_la P_la (defScope s_lname) := ⟨rfl, rfl, rfl, by decide +kernel, rfl, by decide +kernel, by decide +kernel⟩
abbrev N_la1 : List Str := ["_law_sign", "_law_low"]
theorem nd_la1 : N_la1.Nodup := by decide +kernel
theorem ok_lname {f : Addr} {fd : FuncData} (D : Df K mg "_law_named" s_lname P_la f fd) (B : Bt mg) : FnOk P w K mg base (CXE P w) 1 f fd P_la (spWd false) := by
  refine D.F.okN sc_la (fun vs H Q E h => ?_) (fun cdv A outer s H vs Q E hr h => ?_)
  · obtain ⟨x, rfl, _⟩ := h
    rfl
  · obtain ⟨x, rfl, hx, k⟩ := h
    refine ⟨_, pss_cons (ps_set (i := 1) sc_la.nd rfl (Or.inr rfl) pe_str)
      (pss_cons (ps_if (PW.pt (pw_or (pt_cmpR op_eq (pv 0) pe_str (nomark _)) (pw_or (pt_cmpR op_gt (pe_callB call_len_str (by rfl) B.len PySem.boot_len (pa_cons (pv 0) pa_nil)) pe_int (nomark _)) (pw_or1 (pt_cmpR op_notin_str (pe_ix ix_str (pv 0) pe_int (fun _ _ => rfl)) (pv 1) (by rfl)))))) (pss_one (ps_ret pe_non)) pss_nil)
      (pss_one (ps_ret (pe_ifExp (pt_val (pe_callB (call_all rfl) (by rfl) B.all (by rfl) (pa_cons (pe_comp (N' := N_la1) (fm := [none, some 1]) rfl ⟨rfl, by decide +kernel, by decide +kernel, rfl, rfl, rfl⟩ (pi_str (pv 0)) (fun _ _ _ _ => (pg_name (i := 0) nd_la1 rfl (Or.inl rfl))) (fun _ _ _ _ => pif_nil) (fun _ _ _ _ => (pe_cmpR op_in_str (pv 0) (pe_op op_add_str (pv 1) pe_str) (by rfl)))) pa_nil))) (pv 0) pe_non)))), ?_⟩
    have no : ∀ H', Same H H' → nameB x = false → Q .non H' := fun H' s' z => by
      have q := k H' s'
      rw [wd_name, if_neg (by rw [z]; simp)] at q
      exact q
    have short : ¬ (1 ≤ x.length ∧ x.length ≤ 12) → nameB x = false := fun z => by
      unfold nameB
      rw [Bool.and_eq_false_iff]; left
      rw [← Bool.decide_and, decide_eq_false_iff_not]; exact z
    refine ⟨_, rfl, rfl, _, rfl, ?_⟩
    rw [nil_iff]
    refine ite2 (fun c => ?_) (fun c => ?_)
    · have c := of_decide_eq_true c
      exact iteT (no H (Same.refl H) (short (by omega)))
    have c : ¬ x.length = 0 := fun z => c (decide_eq_true z)
    refine ⟨_, rfl, _, rfl, len_ok hx, _, _, rfl, rfl, _, rfl, ite2 (fun d => ?_) (fun d => ?_)⟩
    · have d : (12 : Int) < x.length := of_decide_eq_true d
      exact iteT (no H (Same.refl H) (short (by omega)))
    have d : ¬ (12 : Int) < x.length := fun z => d (decide_eq_true z)
    have e0 : atI x.cps.toList 0 = some (x.cps.getD 0 0) := by
      refine atI_nat (j := 0) ?_
      rw [Array.getElem?_toList]
      exact sg_at (by omega)
    have yes : nameB x = (isL (x.cps.getD 0 0) && x.cps.toList.all fun c => isL c || isF c) := by
      unfold nameB
      rw [decide_eq_true (show 1 ≤ x.length by omega), decide_eq_true (show x.length ≤ 12 by omega)]
      rfl
    refine ⟨_, rfl, _, _, _, rfl, rfl, len_ok hx, e0, _, rfl, _, _, rfl, rfl, _, rfl, ?_⟩
    rw [show (!(!(Builtin.Str.occurrences lowS ⟨#[x.cps.getD 0 0]⟩ 0 lowS.length 1).isEmpty)) = !isL (x.cps.getD 0 0) by rw [low_in]]
    by_cases l0 : isL (x.cps.getD 0 0) = true
    · rw [l0] at yes ⊢
      refine iteF ?_
      refine ⟨_, rfl, _, rfl, fun p hp => ?_⟩
      refine blk_str (fun i σ H2 => ∃ u, σ = [u, some (.str lowS)] ∧ Same H H2 ∧ H2 p = some (.lst ((List.range i).map fun j => V.bl (isL (x.cps.getD j 0) || isF (x.cps.getD j 0))))) ⟨none, rfl, Same.new hp, upd_same⟩ ?_ ?_
      · rintro i σ H2 hi ⟨u, rfl, s2, e2⟩
        refine turn_all ⟨_, rfl, _, rfl, _, _, rfl, rfl, by decide, _, _, rfl, rfl, _, e2, small_rng _ _ (by omega), _, rfl, Same.grow hp s2, ?_⟩
        rw [upd_same, ← map_snoc, lowf_in]
      · rintro σ H2 ⟨u, rfl, s2, e2⟩
        rw [map_bl] at e2
        refine ⟨p, _, rfl, SqL.of e2, _, rfl, ?_⟩
        rw [all_places x fun c => isL c || isF c]
        refine ite2 (fun al => ?_) (fun al => ?_)
        · rw [al] at yes
          have q := k H2 s2
          rw [wd_name, if_pos (show nameB x = true from yes)] at q
          exact ⟨_, rfl, q⟩
        · rw [Bool.eq_false_iff.mpr al] at yes
          exact no H2 s2 yes
    · rw [Bool.eq_false_iff.mpr l0] at yes ⊢
      exact iteT (no H (Same.refl H) yes)
end
end K44
set_option Elab.async false
set_option linter.all false
set_option maxRecDepth 100000
set_option maxHeartbeats 1000000
namespace K44
open PySem L2
open PyProof.Rows (envOfC)
section
variable {P : Program} {w : World} {K : PySem.W.Frag} {mg : Str → Option Value} {base : Heap}
def wnS (bs : List Bool) : Str := ⟨(bs.map fun b => if b then 110 else 119).toArray⟩
def formP : List (Str × Str) := [("come", "ww"), ("leave", "w"), ("turn", "wnw"), ("swear", "wnwnw"), ("recant", "wn"), ("enter", "w"), ("strike", "n")]
def formK : List (Key × V) := formP.map fun q => (.inr q.1, .str q.2)
theorem formK_merge : mergeK [] formK = formK := by decide +kernel
theorem formK_val (k : Str) : valV formK (.inr k) = (formOf k).map fun bs => V.str (wnS bs) := by
  by_cases e1 : k = "come"
  · subst e1; decide +kernel
  by_cases e2 : k = "leave"
  · subst e2; decide +kernel
  by_cases e3 : k = "turn"
  · subst e3; decide +kernel
  by_cases e4 : k = "swear"
  · subst e4; decide +kernel
  by_cases e5 : k = "recant"
  · subst e5; decide +kernel
  by_cases e6 : k = "enter"
  · subst e6; decide +kernel
  by_cases e7 : k = "strike"
  · subst e7; decide +kernel
  have n1 : ∀ {s : Str}, ¬ k = s → decide ((Sum.inr s : Key) = Sum.inr k) = false := fun h => decide_eq_false fun z => h (by injection z with z; exact z.symm)
  have e : formOf k = none := by
    unfold formOf
    rw [if_neg e1, if_neg e2, if_neg e3, if_neg e4, if_neg e5, if_neg e6, if_neg e7]
  rw [e]
  unfold valV formK formP
  simp only [List.map_cons, List.map_nil, List.find?_cons, n1 e1, n1 e2, n1 e3, n1 e4, n1 e5, n1 e6, n1 e7, List.find?_nil]
  rfl
abbrev trF : List (TE × TE) := formP.map fun q => (tC (.str q.1), tC (.str q.2))
structure Pr where
  k : Str
  v : Str
  jk : Nat
  pk : Pos
  jv : Nat
  pv : Pos
theorem pps_strs {X : Cx} {pos : Pos} : ∀ l : List Pr, PPs X pos (l.map fun q => some (.Constant (.str q.k) q.jk q.pk)) (l.map fun q => .Constant (.str q.v) q.jv q.pv) (l.map fun q => (tC (.str q.k), tC (.str q.v)))
  | [] => pps_nil
  | _ :: r => pps_cons pe_str pe_str (pps_strs r)
def FormsE (e : Expr) : Prop := ∃ (l : List Pr) (pos : Pos), l.map (fun q => (q.k, q.v)) = formP ∧ e = .Dict (l.map fun q => some (.Constant (.str q.k) q.jk q.pk)) (l.map fun q => .Constant (.str q.v) q.jv q.pv) pos
theorem pe_forms {X : Cx} {e : Expr} (h : FormsE e) : PE X e (tDisp trF) := by
  obtain ⟨l, pos, hl, rfl⟩ := h
  have et : (l.map fun q => (tC (.str q.k), tC (.str q.v))) = trF := by
    show _ = formP.map _
    rw [← hl, List.map_map]
    rfl
  have ln : l.length = 7 := by
    have := congrArg List.length hl
    rw [List.length_map] at this
    exact this
  rw [← et]
  refine pe_disp (pps_strs l) ?_ ?_ ?_ ?_
  · rw [List.all_map, List.all_eq_true]
    intro q _
    rfl
  · rw [List.length_map, List.length_map]
  · intro z
    have := List.map_eq_nil_iff.mp z
    rw [this] at ln
    cases ln
  · rw [List.length_map, ln]
    decide
theorem forms_sw {e : Expr} {t : Option Expr} {n : Nat} {env : Env} (h : FormsE e) : swapsWith e t n env = pure false := by
  obtain ⟨l, pos, _, rfl⟩ := h
  rfl
def spReads : Sp := fun vs H Q _ => ∃ (x : Str), vs = [.str x] ∧ x.length ≤ 100000 ∧
  (∀ ks t H', rdM (Txt.split x " ") = some ks → Same H H' → H' t = some (.tup (ks.map kV)) → Q (.ref t) H') ∧ (rdM (Txt.split x " ") = none → ∀ H', Same H H' → Q .non H')
abbrev N_lr : List Str := ["_law_text_here", "_law_forms", "_law_words", "_law_found", "_law_k", "_law_part"]
abbrev P_lr : List Str := ["_law_text_here"]
theorem sc_lr : FnScope N_lr P_lr (defScope s_lreads) := ⟨rfl, rfl, rfl, by decide +kernel, rfl, by decide +kernel, by decide +kernel⟩
theorem ok_lreads {f fn fa : Addr} {fd gn ga : FuncData} (D : Df K mg "_law_reads" s_lreads P_lr f fd) (Dn : Df K mg "_law_number" s_lnum P_ln fn gn) (Gn : FnOk P w K mg base (CXE P w) 1 fn gn P_ln (spWd true)) (Da : Df K mg "_law_named" s_lname P_la fa ga) (Ga : FnOk P w K mg base (CXE P w) 1 fa ga P_la (spWd false)) (B : Bt mg) :
    FnOk P w K mg base (CXE P w) 2 f fd P_lr spReads := by
  refine D.F.okN sc_lr (fun vs H Q E h => ?_) (fun cdv A outer s H vs Q E hr h => ?_)
  · obtain ⟨x, rfl, _⟩ := h
    rfl
  · obtain ⟨x, rfl, hx, k1, k2⟩ := h
    have hu : (A.deeper (envOfC "_law_reads" (defScope s_lreads) s.heap.objs.size f cdv)).units + 1 < cLine := by have := hr.units; omega
    obtain ⟨e0, p0, p1, rest, hb, hF⟩ : ∃ (e0 : Expr) (p0 p1 : Pos) (rest : List Stmt), defBody s_lreads = .Assign [.Name "_law_forms" p0] e0 p1 :: rest ∧ FormsE e0 ∧ rest = (defBody s_lreads).tail :=
      ⟨_, _, _, _, rfl, ⟨[⟨_, _, _, _, _, _⟩, ⟨_, _, _, _, _, _⟩, ⟨_, _, _, _, _, _⟩, ⟨_, _, _, _, _, _⟩, ⟨_, _, _, _, _, _⟩, ⟨_, _, _, _, _, _⟩, ⟨_, _, _, _, _, _⟩], _, rfl, rfl⟩, rfl⟩
    obtain ⟨hF, hrest⟩ := hF
    rw [hb, hrest]
    refine ⟨_, pss_cons (ps_set (i := 1) sc_lr.nd rfl (Or.inl rfl) (pe_forms hF) (forms_sw hF))
      (pss_cons (ps_set (i := 2) sc_lr.nd rfl (Or.inl rfl) (pe_bm PySem.F.plainAttrs_str PySem.F.slot_str_split PySem.F.type_str_split mt_split (pv 0) (pa_cons pe_str pa_nil)))
      (pss_cons (ps_if (PW.pt (pw_or (pt_cmp (pc_dnotin hu (pe_ix ix_list (pv 2) pe_int (fun _ _ => rfl)) (pv 1))) (pw_or1 (pt_cmpR op_ne (pe_callB call_len_seq (by rfl) B.len PySem.boot_len (pa_cons (pv 2) pa_nil)) (pe_op op_add (pe_callB call_len_str (by rfl) B.len PySem.boot_len (pa_cons (pe_dget hu (pv 1) (pe_ix ix_list (pv 2) pe_int (fun _ _ => rfl)) (fun _ _ => rfl)) pa_nil)) pe_int) (nomark _))))) (pss_one (ps_ret pe_non)) pss_nil)
      (pss_cons (ps_set (i := 3) sc_lr.nd rfl (Or.inl rfl) (pe_tup (pa_cons (pe_ix ix_list (pv 2) pe_int (fun _ _ => rfl)) pa_nil)))
      (pss_cons (ps_for PassesOwn.never rfl (pi_range2 (by rfl) B.range (pa_cons pe_int (pa_cons (pe_callB call_len_seq (by rfl) B.len PySem.boot_len (pa_cons (pv 2) pa_nil)) pa_nil))) (pg_name (i := 4) sc_lr.nd rfl (Or.inl rfl))
      (pss_cons (ps_set (i := 5) sc_lr.nd rfl (Or.inl rfl) (pe_ifExp (pt_cmpR op_eq (pe_ix ix_str (pe_dget hu (pv 1) (pe_ix ix_list (pv 2) pe_int (fun _ _ => rfl)) (fun _ _ => rfl)) (pe_op op_sub (pv 4) pe_int) (fun _ _ => rfl)) pe_str (nomark _)) (pe_fn Dn Gn (hr.mono (by decide)) passN (pa_cons (pe_ix ix_list (pv 2) (pv 4) (fun _ _ => rfl)) pa_nil)) (pe_fn Da Ga (hr.mono (by decide)) passN (pa_cons (pe_ix ix_list (pv 2) (pv 4) (fun _ _ => rfl)) pa_nil))))
      (pss_cons (ps_if (pt_cmp (pc_isN (pv 5))) (pss_one (ps_ret pe_non)) pss_nil)
      (pss_one (ps_set (i := 3) sc_lr.nd rfl (Or.inl rfl) (pe_op op_catT (pv 3) (pe_tup (pa_cons (pv 5) pa_nil))))))))
      (pss_one (ps_ret (pv 3))))))), ?_⟩
    have j := StrLaws.join_split x " "
    have wl : ∀ p ∈ Txt.split x " ", p.length ≤ 100000 := fun p hp => by
      have := part_le _ p hp
      rw [j] at this
      omega
    have wm : (Txt.split x " ").length ≤ 200000 := by
      have := many_le (Txt.split x " ")
      rw [j] at this
      omega
    have w0 := split_ne x " "
    intro d nd
    refine ⟨upd_same, formK, rfl, by decide, ?_⟩
    rw [formK_merge, upd_upd]
    have sd : Same H (upd H d (.dK formK)) := Same.new nd
    refine ⟨_, rfl, rfl, x, rfl, rfl, hx, fun l nl => ?_⟩
    generalize hws : Txt.split x " " = ws at *
    obtain ⟨h, t, rfl⟩ := List.exists_cons_of_ne_nil w0
    have sl : Same H (upd (upd H d (.dK formK)) l (.lst ((h :: t).map V.str))) := sd.trans' (Same.new nl)
    have ed : (upd (upd H d (.dK formK)) l (.lst ((h :: t).map V.str))) d = some (.dK formK) := Same.new nl _ _ upd_same
    have el : (upd (upd H d (.dK formK)) l (.lst ((h :: t).map V.str))) l = some (.lst ((h :: t).map V.str)) := upd_same
    generalize (upd (upd H d (.dK formK)) l (.lst ((h :: t).map V.str))) = H1 at *
    have k2' : rdM (h :: t) = none → Q .non H1 := fun e => k2 e H1 sl
    have at0 : atI ((h :: t).map V.str) 0 = some (.str h) := atI_nat (j := 0) rfl
    refine ⟨_, rfl, l, _, _, _, rfl, rfl, SqL.of el, at0, _, rfl, d, _, rfl, .inl ⟨formK, .inr h, .inl ed, rfl, rfl⟩, _, rfl, ?_⟩
    rw [formK_val]
    cases fo : formOf h with
    | none => exact iteT (iteT (k2' (by show readF (formOf h) (h :: t) = none; rw [fo]; rfl)))
    | some bs =>
    have b5 := form_le fo
    have rd : rdM (h :: t) = if t.length = bs.length then (readL t bs).map (Sum.inr h :: ·) else none := by show readF (formOf h) (h :: t) = _; rw [fo]; rfl
    have gd : ∀ H2, Same H1 H2 → DGet H2 d (.str h) (some (.str (wnS bs))) := fun H2 s2 => .inl ⟨formK, .inr h, .inl (s2 _ _ ed), rfl, by rw [formK_val, fo]; rfl⟩
    have wl' : (wnS bs).length = bs.length := by show ((bs.map _).toArray).size = _; simp
    refine iteF ⟨_, rfl, l, _, rfl, .inl (SqL.of el), _, rfl, _, rfl, l, _, _, _, rfl, rfl, SqL.of el, at0, d, _, rfl, gd H1 (Same.refl _), _, rfl, len_le (by omega), _, _, rfl, rfl, rfl, _, rfl, ite2 (fun c => ?_) (fun c => ?_)⟩
    · refine k2' ?_
      rw [rd]
      refine if_neg fun z => ?_
      revert c
      simp [wl', z]
    have tl : t.length = bs.length := by
      simp [wl'] at c
      omega
    have rd : rdM (h :: t) = (readL t bs).map (Sum.inr h :: ·) := rd.trans (if_pos tl)
    refine ⟨_, rfl, l, _, _, _, rfl, rfl, SqL.of el, at0, len_le (show 1 ≤ 100 by decide), fun q nq => ?_⟩
    have sq : Same H1 (upd H1 q (.tup [.str h])) := Same.new nq
    have ll : ((h :: t).map V.str).length = t.length + 1 := by rw [List.length_map]; rfl
    refine ⟨_, rfl, l, _, rfl, .inl (SqL.of (sq _ _ el)), _, _, rfl, ⟨by decide, by decide, by omega, by rw [ll]; omega⟩, ?_⟩
    have en : ((((h :: t).map V.str).length : Int) - 1).toNat = t.length := by rw [ll]; omega
    rw [en]
    refine for_range (fun i σ H2 => ∃ q v4 v5, σ = [some (.str x), some (.ref d), some (.ref l), some (.ref q), v4, v5] ∧ Same H1 H2 ∧ H2 q = some (.tup (.str h :: (List.range i).map (rdV t bs))) ∧ ∀ j, j < i → (rdO t bs j).isSome = true) ⟨q, none, none, rfl, sq, upd_same, fun j hj => by omega⟩ ?_ ?_
    · rintro i σ H2 hi ⟨q, v4, v5, rfl, s2, e2, al⟩
      have z1 : t[i]? = some t[i] := List.getElem?_eq_getElem hi
      have hb : i < bs.length := by omega
      have z2 : bs[i]? = some bs[i] := List.getElem?_eq_getElem hb
      generalize t[i] = x0 at z1
      generalize bs[i] = b0 at z2
      have lx : x0.length ≤ 100000 := wl x0 (List.mem_cons_of_mem _ (List.mem_of_getElem? z1))
      have ro : rdO t bs i = readW b0 x0 := rdO_at z1 z2
      have rv : rdV t bs i = wdV b0 x0 := by unfold rdV wdV; rw [ro]
      have a1 : atI ((h :: t).map V.str) (1 + (i : Int)) = some (.str x0) := by
        rw [show (1 : Int) + (i : Int) = ((i + 1 : Nat) : Int) by omega]
        refine atI_nat ?_
        rw [List.getElem?_map, List.getElem?_cons_succ, z1]; rfl
      have a2 : atI (wnS bs).cps.toList ((1 + (i : Int)) - 1) = some (if b0 then 110 else 119) := by
        rw [show (1 : Int) + (i : Int) - 1 = (i : Int) by omega]
        refine atI_nat ?_
        show ((bs.map fun b => if b = true then 110 else 119).toArray).toList[i]? = _
        simp [z2]
      refine ⟨_, rfl, _, rfl, l, _, _, _, rfl, rfl, SqL.of (s2 _ _ el), at0, d, _, rfl, gd H2 s2, _, rfl, _, _, rfl, rfl, _, _, _, rfl, rfl, len_le (by omega), a2, rfl, _, rfl, ?_⟩
      cases b0
      case' true => refine iteT ⟨_, rfl, _, rfl, l, _, _, _, rfl, rfl, SqL.of (s2 _ _ el), a1, x0, rfl, lx, fun H3 s3 => ?_⟩
      case' false => refine iteF ⟨_, rfl, _, rfl, l, _, _, _, rfl, rfl, SqL.of (s2 _ _ el), a1, x0, rfl, lx, fun H3 s3 => ?_⟩
      all_goals
        have s13 := s2.trans' s3
        refine ⟨_, rfl, _, rfl, ite2 (fun n => ?_) (fun n => ?_)⟩
        · have n := of_decide_eq_true n
          have n : rdV t bs i = .non := rv.trans n
          refine k2 ?_ H3 (sl.trans' s13)
          rw [rd]
          have : readL t bs = none := by
            unfold readL
            refine if_neg fun z => ?_
            have zi := List.all_eq_true.mp z i (List.mem_range.mpr hi)
            unfold rdV at n
            cases e : rdO t bs i with
            | none => rw [e] at zi; cases zi
            | some k => rw [e] at n; cases k <;> cases n
          rw [this]; rfl
        · have n : ¬ rdV t bs i = .non := fun z => n (decide_eq_true (rv.symm.trans z))
          have eq3 := s3 _ _ e2
          refine ⟨_, rfl, _, rfl, len_le (show 1 ≤ 100 by decide), fun T nT => ?_⟩
          have sT := Same.new (o := .tup [rdV t bs i]) nT
          rw [← rv]
          refine ⟨q, T, _, _, rfl, rfl, SqT.of (sT _ _ eq3), SqT.of upd_same, by simp, ?_, fun z => by simp at z, fun _ p np => ?_⟩
          · simp only [List.length_cons, List.length_map, List.length_range, List.length_nil]
            exact len_le (by omega)
          refine ⟨p, _, _, rfl, (s13.trans' sT).trans' (Same.new np), ?_, fun j hj => ?_⟩
          · rw [upd_same, ← map_snoc]; rfl
          · by_cases c : j < i
            · exact al j c
            · have : j = i := by omega
              rw [this]
              unfold rdV at n
              cases e : rdO t bs i with
              | none => rw [e] at n; exact absurd rfl n
              | some k => rfl
    · rintro σ H2 ⟨q, v4, v5, rfl, s2, e2, al⟩
      refine ⟨_, rfl, k1 _ q H2 (by rw [rd, readL_all al]; rfl) (sl.trans' s2) ?_⟩
      rw [e2, List.map_cons, rdV_map al]
      rfl
end
end K44
set_option Elab.async false
set_option linter.all false
set_option maxRecDepth 100000
set_option maxHeartbeats 1000000
namespace L2
open PySem PySem.Spec PyProof.Rows
section
variable {X : Cx}
def rUpper : V → List V → Hp → VK → Prop := fun x vs H Q => ∃ z : Str, x = .str z ∧ vs = [] ∧ z.length ≤ 1000 ∧ ∀ y : Str, y.length ≤ 3 * z.length → Q (.str y) H
theorem not_long {n : Nat} (h : n ≤ 100000) : Builtin.Str.tooLong n = false := by
  unfold Builtin.Str.tooLong
  simp [sizeLine_eq]
  omega
theorem mt_upper : MtR X "str.upper" rUpper := by
  intro pins s σ H x vs v us Q I rx rv h
  obtain ⟨z, rfl, rfl, hz, q⟩ := h
  obtain ⟨t, rfl⟩ := rx
  cases rv
  have l := PyProof.Rows.len_upper z
  exact PySem.SC.upper (not_long (by omega)) ⟨.str _, H, I.tok _, ⟨_, rfl⟩, q _ l⟩
theorem dbl_len (c : Nat) : ∀ l : List Nat, (StrLaws.dbl c l).length ≤ 2 * l.length
  | [] => Nat.le_refl _
  | x :: r => by
    have := dbl_len c r
    show (if x = c then x :: x :: StrLaws.dbl c r else x :: StrLaws.dbl c r).length ≤ _
    split
    · simp only [List.length_cons]; omega
    · simp only [List.length_cons]; omega
theorem rep_len (z : Str) : (Txt.replace z " " "  ").length ≤ 2 * z.length := by
  rw [PyProof.Rows.replace_dbl z " " "  " 32 rfl rfl]
  have := dbl_len 32 z.cps.toList
  show (StrLaws.dbl 32 z.cps.toList).toArray.size ≤ 2 * z.cps.size
  simpa using this
theorem ld_var {pins : List (Addr × Obj)} {s : Shared} {σ : St} {H : Hp} {i : Nat} {x : Str} {pos : Pos} {v : V} {E : Value → Shared → Prop} {Q : Value → Shared → Prop} (I : Inv X pins σ H s) (hN : X.N[i]? = some x) (hv : Vis X.env.scope x) (e : σ[i]? = some (some v)) (h : ∀ u, RelV v u → Q u s)
    (hd : (x == ("__debug__" : Str)) = false) (hcd : (x == ("__classdict__" : Str)) = false) : wpAny (model X.prog X.w) X.A (eval (.Name x pos) X.env) Q E s := by
  obtain ⟨m, hn, hl⟩ := I.loc
  obtain ⟨u, r, l⟩ := hl i x v hN e hv
  have fin := h u r
  rcases l with ⟨hk, hm⟩ | ⟨hk, c, hc, hcell⟩
  · exact wpAny_Name (wpAny_loadName_local I.ok.kind hk hn hm fin) hd
  · rcases hk with hk | hk
    · exact wpAny_Name (wpAny_loadName_cell I.ok.kind hk hc hcell fin) hd
    · exact wpAny_Name (wpAny_loadName_free I.ok.kind hk hc hcell fin hcd) hd
def tStrRep (i : Nat) (x0 : Str) (t : TA) : TA := fun σ H Q => ∃ z : Str, σ[i]? = some (some (.str z)) ∧ z.length ≤ 1000 ∧ ∀ y : Str, y.length ≤ 2 * z.length → t σ H fun xs H' => Q (.str x0 :: .str y :: xs) H'
theorem pa_strrep {i : Nat} {x x0 : Str} {j k1 k2 : Nat} {p0 px apos q1 q2 cpos : Pos} {es : List Expr} {t : TA} (hN : X.N[i]? = some x) (hv : Vis X.env.scope x) (hr : PA X es t) (hline : (apos.endLine == cpos.line) = true)
    (hbase : attributeBase (.Name x px) "replace" X.env (eval (.Name x px) X.env) = eval (.Name x px) X.env := by rfl) (hd : (x == ("__debug__" : Str)) = false := by decide) (hcd : (x == ("__classdict__" : Str)) = false := by decide)
    (hs : starEach (.Constant (.str x0) j p0 :: .Call (.Attribute (.Name x px) "replace" apos) [.Constant (.str " ") k1 q1, .Constant (.str "  ") k2 q2] [] cpos :: es) X.env =
      (false, eval (.Constant (.str x0) j p0) X.env) :: (false, eval (.Call (.Attribute (.Name x px) "replace" apos) [.Constant (.str " ") k1 q1, .Constant (.str "  ") k2 q2] [] cpos) X.env) :: starEach es X.env := by rfl) :
    PA X (.Constant (.str x0) j p0 :: .Call (.Attribute (.Name x px) "replace" apos) [.Constant (.str " ") k1 q1, .Constant (.str "  ") k2 q2] [] cpos :: es) (tStrRep i x0 t) := by
  intro pos pins s σ H Q I h
  obtain ⟨z, e, hz, h⟩ := h
  rw [hs]
  show wpAny _ _ (spliced ((false, eval (.Constant (.str x0) j p0) X.env) :: (false, eval (.Call (.Attribute (.Name x px) "replace" apos) [.Constant (.str " ") k1 q1, .Constant (.str "  ") k2 q2] [] cpos) X.env) :: backTo pos (starEach es X.env))) _ _ s
  refine Calls.spliced_cons (Calls.Constant_str ?_)
  have I1 : Inv X pins σ H { s with toks := s.toks + 1 } := I.tok _
  refine Calls.spliced_cons (wpAny_Call_method_late hbase (by rfl) hline rfl (ld_var I1 hN hv e (fun u ru => ?_) hd hcd))
  obtain ⟨tk, rfl⟩ := ru
  refine ⟨"str", "str.replace", F.plainAttrs_str, F.slot_str_replace, F.type_str_replace, typeIs_str _ _ _, (fun _ e => by cases e), ?_⟩
  refine Calls.callWith_builtin (by rfl) (Calls.evalArgs_plain ?_)
  refine Calls.spliced_cons (Calls.Constant_str (k := k1) (pos := q1) (Calls.spliced_cons (Calls.Constant_str (k := k2) (pos := q2) (Calls.spliced_nil ?_))))
  have l2 : ("  " : Str).length = 2 := rfl
  refine PySem.SC.replace (by simp) (by simp) (by simp) (by decide) (by rw [l2]; omega) fun t' k => ?_
  have I2 : Inv X pins σ H { s with toks := k } := I.tok k
  exact thn (hr pos pins _ σ H _ I2 (h _ (rep_len z))) fun us s2 ⟨xs, H2, I3, r2, q2⟩ => ⟨.str x0 :: .str (Txt.replace z " " "  ") :: xs, H2, I3, .cons ⟨_, rfl⟩ (.cons ⟨_, rfl⟩ r2), q2⟩
end
end L2
set_option Elab.async false
set_option linter.all false
set_option maxRecDepth 100000
set_option maxHeartbeats 1000000
namespace K44
open PySem L2
abbrev s_bent : Stmt := top 27
abbrev s_spoilt : Stmt := top 28
def Few (n m : Nat) (zs : List Str) : Prop := zs.length ≤ n ∧ ∀ z ∈ zs, z.length ≤ m
theorem cut_strs_to (zs : List Str) (k : Nat) : cutV (zs.map V.str) none (some (k : Int)) = (zs.take k).map V.str := by rw [cut_to, List.map_take]
theorem cut_strs_from (zs : List Str) (k : Nat) : cutV (zs.map V.str) (some (k : Int)) none = (zs.drop k).map V.str := by rw [cut_from, List.map_drop]
theorem strs_at {zs : List Str} {k : Nat} (h : k < zs.length) : ∃ z, zs[k]? = some z ∧ z ∈ zs ∧ atI (zs.map V.str) (k : Int) = some (.str z) :=
  ⟨zs[k], List.getElem?_eq_getElem h, List.getElem_mem h, atI_nat (by rw [List.getElem?_map, List.getElem?_eq_getElem h]; rfl)⟩
theorem add_len (x y : Str) : (x ++ y).length = x.length + y.length := by
  show (x.cps ++ y.cps).size = _
  rw [Array.size_append]; rfl
theorem len_ok' {n : Nat} (h : n ≤ 1000) : n ≤ sizeLine := Nat.le_trans h (by decide)
theorem cat_len {xs ys : List Str} (h : xs.length + ys.length ≤ 20) : (xs.map V.str).length + (ys.map V.str).length ≤ sizeLine := by rw [List.length_map, List.length_map]; exact len_le (by omega)
def BM (H : Hp) (l q : Addr) (ws : List Str) : St → Hp → Prop := fun σ H' => ∃ (o : Addr) (od : List Str) (a : Nat) (x : Str), σ = [some (.ref l), some (.ref q), some (.int a), some (.str x), some (.ref o), none, none] ∧ a < ws.length ∧ ws[a]? = some x ∧ Same H H' ∧ H' o = some (.lst (od.map V.str)) ∧ od.length = 18 ∧ ∀ z ∈ od, z.length ≤ 100
section
variable {P : Program} {w : World} {K : PySem.W.Frag} {mg : Str → Option Value} {base : Heap}
def spBent (K : PySem.W.Frag) : Sp := fun vs H Q _ => ∃ (l q : Addr) (ws : List Str) (d0 d1 d2 : Nat), vs = [.ref l, .ref q] ∧ SqL K H l (ws.map V.str) ∧ SqL K H q [.int d0, .int d1, .int d2] ∧ 1 ≤ ws.length ∧ Few 6 12 ws ∧
  ∀ r zs H', Same H H' → H' r = some (.lst (zs.map V.str)) → Few 8 100 zs → Q (.ref r) H'
abbrev N_be : List Str := ["_law_words", "_law_drawn", "_law_at", "_law_word_here", "_law_odd", "_law_other_at", "_law_found"]
abbrev P_be : List Str := ["_law_words", "_law_drawn"]
theorem sc_be : FnScope N_be P_be (defScope s_bent) := ⟨rfl, rfl, rfl, by decide +kernel, rfl, by decide +kernel, by decide +kernel⟩
theorem ok_bent {f : Addr} {fd : FuncData} (D : Df K mg "_law_bent" s_bent P_be f fd) (B : Bt mg) : FnOk P w K mg base (CXE P w) 1 f fd P_be (spBent K) := by
  refine D.F.okN sc_be (fun vs H Q E h => ?_) (fun cdv A outer s H vs Q E hr h => ?_)
  · obtain ⟨l, q, ws, d0, d1, d2, rfl, _⟩ := h
    rfl
  · obtain ⟨l, q, ws, d0, d1, d2, rfl, hl, hq, w1, ⟨w6, w12⟩, k⟩ := h
    refine ⟨_, pss_cons (ps_set (i := 2) sc_be.nd rfl (Or.inl rfl) (pe_op op_mod (pe_ix ix_list (pv 1) pe_int (fun _ _ => rfl)) (pe_callB call_len_seq (by rfl) B.len PySem.boot_len (pa_cons (pv 0) pa_nil))))
      (pss_cons (ps_set (i := 3) sc_be.nd rfl (Or.inl rfl) (pe_ix ix_list (pv 0) (pv 2) (fun _ _ => rfl)))
      (pss_cons (ps_set (i := 4) sc_be.nd rfl (Or.inl rfl) (pe_lst (pa_cons (pe_op op_add_str pe_str (pv 3)) (pa_cons (pe_op op_add_str (pv 3) pe_str) (pa_cons (pe_op op_add_str pe_str (pv 3)) (pa_cons (pe_op op_add_str pe_str (pv 3)) (pa_cons (pe_op op_add_str (pv 3) (pe_op op_rep_str pe_str pe_int)) (pa_cons (pe_bm0 PySem.F.plainAttrs_str PySem.F.slot_str_upper PySem.F.type_str_upper mt_upper (pv 3)) (pa_cons pe_str (pa_cons pe_str (pa_cons (pe_op op_add_str (pv 3) pe_str) pa_nil)))))))))))
      (pss_cons (ps_cut (BM H l q ws) (ps_set (i := 4) sc_be.nd rfl (Or.inl rfl) (pe_op op_cat (pv 4) (pe_lst (pa_cons pe_str (pa_cons pe_str (pa_cons pe_str (pa_cons pe_str (pa_cons pe_str (pa_cons pe_str (pa_cons pe_str (pa_cons pe_str (pa_cons pe_str pa_nil)))))))))))))
      (pss_cons (ps_if (pt_cmpR op_lt (pe_ix ix_list (pv 1) pe_int (fun _ _ => rfl)) pe_int (nomark _)) (pss_one (ps_ret (pe_op op_cat (pe_op op_cat (pe_slice sl_list (pv 0) po_none (po_some (pv 2))) (pe_lst (pa_cons (pe_ix ix_list (pv 4) (pe_op op_mod (pe_ix ix_list (pv 1) pe_int (fun _ _ => rfl)) pe_int) (fun _ _ => rfl)) pa_nil))) (pe_slice sl_list (pv 0) (po_some (pe_op op_add (pv 2) pe_int)) po_none)))) pss_nil)
      (pss_cons (ps_if (pt_cmpR op_eq (pe_ix ix_list (pv 1) pe_int (fun _ _ => rfl)) pe_int (nomark _)) (pss_one (ps_ret (pe_op op_cat (pe_slice sl_list (pv 0) po_none (po_some (pv 2))) (pe_slice sl_list (pv 0) (po_some (pe_op op_add (pv 2) pe_int)) po_none)))) pss_nil)
      (pss_cons (ps_if (pt_cmpR op_eq (pe_ix ix_list (pv 1) pe_int (fun _ _ => rfl)) pe_int (nomark _)) (pss_one (ps_ret (pe_op op_cat (pe_op op_cat (pe_slice sl_list (pv 0) po_none (po_some (pv 2))) (pe_lst (pa_cons (pv 3) pa_nil))) (pe_slice sl_list (pv 0) (po_some (pv 2)) po_none)))) pss_nil)
      (pss_cons (ps_set (i := 5) sc_be.nd rfl (Or.inl rfl) (pe_op op_mod (pe_ix ix_list (pv 1) pe_int (fun _ _ => rfl)) (pe_callB call_len_seq (by rfl) B.len PySem.boot_len (pa_cons (pv 0) pa_nil))))
      (pss_cons (ps_set (i := 6) sc_be.nd rfl (Or.inl rfl) (pe_callTy call_list_of (by rfl) B.list (by rfl) (pa_cons (pv 0) pa_nil)))
      (pss_cons (ps_asg (pe_ix ix_list (pv 0) (pv 5) (fun _ _ => rfl)) (pg_sub (pv 6) (pv 2) set_list))
      (pss_cons (ps_asg (pv 3) (pg_sub (pv 6) (pv 5) set_list))
      (pss_one (ps_ret (pv 6))))))))))))), ?_⟩
    have lw : (ws.map V.str).length = ws.length := List.length_map ..
    refine ⟨_, rfl, q, _, _, _, rfl, rfl, hq, (show _ = some (V.int d1) from rfl), _, rfl, l, _, rfl, .inl hl, _, _, rfl, rfl, by rw [lw]; omega, ?_⟩
    rw [lw]
    obtain ⟨a, ea⟩ : ∃ a : Nat, (d1 : Int) % (ws.length : Int) = (a : Int) := ⟨d1 % ws.length, by omega⟩
    have al : a < ws.length := by have := Int.emod_lt_of_pos (d1 : Int) (show (0 : Int) < (ws.length : Int) by omega); omega
    show gName 2 (V.int ((d1 : Int) % (ws.length : Int))) _ _ _
    rw [ea]
    obtain ⟨x, ex, mx, atx⟩ := strs_at al
    have lx := w12 x mx
    refine ⟨_, rfl, _, rfl, l, _, _, _, rfl, rfl, hl, atx, ?_⟩
    have ad : ∀ y z : Str, y.length ≤ 12 → z.length ≤ 12 → y.length + z.length ≤ sizeLine := fun y z h1 h2 => len_le (by omega)
    have l1 : ∀ y : Str, y.length = 1 → y.length ≤ 12 := fun y h => by omega
    have lq : (strRep ("q" : Str) 12).length = 12 := by decide +kernel
    refine ⟨_, rfl, _, _, rfl, rfl, ad _ _ (l1 _ rfl) lx, _, rfl, _, _, rfl, rfl, ad _ _ lx (l1 _ rfl), _, rfl, _, _, rfl, rfl, ad _ _ (l1 _ rfl) lx, _, rfl, _, _, rfl, rfl, ad _ _ (l1 _ rfl) lx, _, rfl, _, _, rfl, rfl, by decide, by decide, by decide, _, _, rfl, rfl, ad _ _ lx (Nat.le_of_eq lq), _, rfl, rfl, x, rfl, rfl, by omega, fun up hup => ?_⟩
    refine ⟨_, rfl, _, _, rfl, rfl, ad _ _ lx (l1 _ rfl), len_le (show 9 ≤ 100 by decide), fun o1 n1 => ?_⟩
    refine ⟨⟨_, rfl, len_le (show 9 ≤ 100 by decide), fun o2 n2 => ⟨o1, o2, _, _, rfl, rfl, Same.new n2 _ _ upd_same, upd_same, len_le (show 18 ≤ 100 by decide), fun o n3 => ?_⟩⟩, ?_⟩
    · refine ⟨o, ([("0" : Str) ++ x, x ++ ("0" : Str), ("-" : Str) ++ x, ("+" : Str) ++ x, x ++ strRep ("q" : Str) 12, up, "", "-", x ++ ("." : Str)] : List Str) ++ (["1234567890", "123456789", "a1b2c3d4e5f6", "a1b2c3d4e5f6g", "undo", "Come", "strike", "0", "00"] : List Str), a, x, rfl, al, ex, ((Same.new n1).trans' (Same.new n2)).trans' (Same.new n3), upd_same, rfl, fun z hz => ?_⟩
      simp only [List.mem_append, List.mem_cons, List.not_mem_nil, or_false] at hz
      rcases hz with (rfl | rfl | rfl | rfl | rfl | rfl | rfl | rfl | rfl) | rfl | rfl | rfl | rfl | rfl | rfl | rfl | rfl | rfl
      all_goals first | (rw [add_len]; first | (rw [lq]; omega) | (show _ + 1 ≤ 100; omega) | (show 1 + _ ≤ 100; omega)) | omega | decide
    clear hup lq ad l1 atx ex mx lx al ea
    rintro σ H3 ⟨o, od, a, x, rfl, al, ex, s3, eo, lod, fod⟩
    have hq3 := s3.seq hq
    have hl3 := s3.seq hl
    have mx := List.mem_of_getElem? ex
    have few0 : ∀ zs : List Str, zs.length ≤ 8 → (∀ z ∈ zs, z ∈ ws ∨ z ∈ od) → Few 8 100 zs := fun zs h1 h2 => ⟨h1, fun z hz => (h2 z hz).elim (fun h => by have := w12 z h; omega) (fod z)⟩
    have lt : (ws.take a).length ≤ 6 := by rw [List.length_take]; omega
    have ld : ∀ n, (ws.drop n).length ≤ 6 := fun n => by rw [List.length_drop]; omega
    have tk : ∀ z, z ∈ ws.take a → z ∈ ws := fun z h => List.mem_of_mem_take h
    have dk : ∀ n z, z ∈ ws.drop n → z ∈ ws := fun n z h => List.mem_of_mem_drop h
    have pl : ((a : Nat) : Int) + 1 = ((a + 1 : Nat) : Int) := by omega
    have la1 : (ws.take a).length = a := by rw [List.length_take]; omega
    have ld1 : ∀ n, (ws.drop n).length = ws.length - n := fun n => List.length_drop
    refine ⟨_, rfl, q, _, _, _, rfl, rfl, hq3, (show _ = some (V.int d0) from rfl), _, _, rfl, rfl, _, rfl, ite2 (fun c => ?_) (fun c => ?_)⟩
    · -- one word is another
      refine ⟨_, rfl, _, rfl, _, rfl, l, _, rfl, hl3, fun p1 n1 => ?_⟩
      rw [cut_strs_to]
      have t1 := Same.new (o := .lst ((ws.take a).map V.str)) n1
      obtain ⟨b, eb⟩ : ∃ b : Nat, (d2 : Int) % 18 = (b : Int) := ⟨d2 % 18, by omega⟩
      obtain ⟨z, ez, mz, atz⟩ := strs_at (zs := od) (k := b) (by omega)
      refine ⟨_, rfl, _, rfl, q, _, _, _, rfl, rfl, t1.seq hq3, (show _ = some (V.int d2) from rfl), _, _, rfl, rfl, (by show (0 : Int) < 18; decide), o, _, _, _, rfl, rfl, SqL.of (t1 _ _ eo), (by show atI _ ((d2 : Int) % 18) = _; rw [eb]; exact atz), len_le (show 1 ≤ 100 by decide), fun p2 n2 => ?_⟩
      have t2 := Same.new (o := .lst [V.str z]) n2
      refine ⟨p1, p2, _, _, rfl, rfl, t2 _ _ upd_same, upd_same, cat_len (ys := [z]) (by show _ + 1 ≤ 20; omega), fun p3 n3 => ?_⟩
      rw [show (ws.take a).map V.str ++ [V.str z] = (ws.take a ++ [z]).map V.str by rw [List.map_append]; rfl]
      have t3 := Same.new (o := .lst ((ws.take a ++ [z]).map V.str)) n3
      have t13 := (t1.trans' t2).trans' t3
      refine ⟨_, rfl, _, rfl, _, _, rfl, rfl, _, rfl, l, _, rfl, t13.seq hl3, fun p4 n4 => ?_⟩
      rw [pl, cut_strs_from]
      have t4 := Same.new (o := .lst ((ws.drop (a + 1)).map V.str)) n4
      refine ⟨p3, p4, _, _, rfl, rfl, t4 _ _ upd_same, upd_same, cat_len (by rw [List.length_append, la1, ld1]; show a + 1 + _ ≤ 20; omega), fun p5 n5 => ?_⟩
      rw [← List.map_append]
      refine k p5 _ _ (((s3.trans' t13).trans' t4).trans' (Same.new n5)) upd_same (few0 _ ?_ fun y hy => ?_)
      · rw [List.length_append, List.length_append, la1, ld1]; show a + 1 + _ ≤ 8; omega
      · rcases List.mem_append.mp hy with h | h
        · rcases List.mem_append.mp h with h | h
          · exact .inl (tk y h)
          · rw [List.mem_singleton.mp h]; exact .inr mz
        · exact .inl (dk _ y h)
    refine ⟨_, rfl, q, _, _, _, rfl, rfl, hq3, (show _ = some (V.int d0) from rfl), rfl, _, rfl, ite2 (fun c => ?_) (fun c => ?_)⟩
    · -- one word goes
      refine ⟨_, rfl, _, rfl, _, rfl, l, _, rfl, hl3, fun p1 n1 => ?_⟩
      rw [cut_strs_to]
      have t1 := Same.new (o := .lst ((ws.take a).map V.str)) n1
      refine ⟨_, rfl, _, rfl, _, _, rfl, rfl, _, rfl, l, _, rfl, t1.seq hl3, fun p4 n4 => ?_⟩
      rw [pl, cut_strs_from]
      have t4 := Same.new (o := .lst ((ws.drop (a + 1)).map V.str)) n4
      refine ⟨p1, p4, _, _, rfl, rfl, t4 _ _ upd_same, upd_same, cat_len (by rw [la1, ld1]; omega), fun p5 n5 => ?_⟩
      rw [← List.map_append]
      refine k p5 _ _ (((s3.trans' t1).trans' t4).trans' (Same.new n5)) upd_same (few0 _ ?_ fun y hy => ?_)
      · rw [List.length_append, la1, ld1]; omega
      · rcases List.mem_append.mp hy with h | h
        · exact .inl (tk y h)
        · exact .inl (dk _ y h)
    refine ⟨_, rfl, q, _, _, _, rfl, rfl, hq3, (show _ = some (V.int d0) from rfl), rfl, _, rfl, ite2 (fun c => ?_) (fun c => ?_)⟩
    · -- one word twice
      refine ⟨_, rfl, _, rfl, _, rfl, l, _, rfl, hl3, fun p1 n1 => ?_⟩
      rw [cut_strs_to]
      have t1 := Same.new (o := .lst ((ws.take a).map V.str)) n1
      refine ⟨_, rfl, len_le (show 1 ≤ 100 by decide), fun p2 n2 => ?_⟩
      have t2 := Same.new (o := .lst [V.str x]) n2
      refine ⟨p1, p2, _, _, rfl, rfl, t2 _ _ upd_same, upd_same, cat_len (ys := [x]) (by show _ + 1 ≤ 20; omega), fun p3 n3 => ?_⟩
      rw [show (ws.take a).map V.str ++ [V.str x] = (ws.take a ++ [x]).map V.str by rw [List.map_append]; rfl]
      have t3 := Same.new (o := .lst ((ws.take a ++ [x]).map V.str)) n3
      have t13 := (t1.trans' t2).trans' t3
      refine ⟨_, rfl, _, rfl, _, rfl, l, _, rfl, t13.seq hl3, fun p4 n4 => ?_⟩
      rw [cut_strs_from]
      have t4 := Same.new (o := .lst ((ws.drop a).map V.str)) n4
      refine ⟨p3, p4, _, _, rfl, rfl, t4 _ _ upd_same, upd_same, cat_len (by rw [List.length_append, la1, ld1]; show a + 1 + _ ≤ 20; omega), fun p5 n5 => ?_⟩
      rw [← List.map_append]
      refine k p5 _ _ (((s3.trans' t13).trans' t4).trans' (Same.new n5)) upd_same (few0 _ ?_ fun y hy => ?_)
      · rw [List.length_append, List.length_append, la1, ld1]; show a + 1 + _ ≤ 8; omega
      · rcases List.mem_append.mp hy with h | h
        · rcases List.mem_append.mp h with h | h
          · exact .inl (tk y h)
          · rw [List.mem_singleton.mp h]; exact .inl mx
        · exact .inl (dk _ y h)
    refine ⟨_, rfl, q, _, _, _, rfl, rfl, hq3, (show _ = some (V.int d2) from rfl), _, rfl, l, _, rfl, .inl hl3, _, _, rfl, rfl, by rw [lw]; omega, ?_⟩
    rw [lw]
    obtain ⟨b, eb⟩ : ∃ b : Nat, (d2 : Int) % (ws.length : Int) = (b : Int) := ⟨d2 % ws.length, by omega⟩
    have bl : b < ws.length := by have := Int.emod_lt_of_pos (d2 : Int) (show (0 : Int) < (ws.length : Int) by omega); omega
    show gName 5 (V.int ((d2 : Int) % (ws.length : Int))) _ _ _
    rw [eb]
    obtain ⟨y, ey, my, aty⟩ := strs_at bl
    refine ⟨_, rfl, l, _, rfl, .inl hl3, fun p np => ?_⟩
    have t1 := Same.new (o := .lst (ws.map V.str)) np
    have ix : ∀ (zs : List Str) (n : Nat), zs.length = ws.length → n < ws.length → ixN (zs.map V.str).length (n : Int) = some n := fun zs n h1 h2 => by
      rw [List.length_map, h1]
      unfold ixN
      rw [if_pos (by omega), if_pos (by omega)]
      rfl
    refine ⟨_, rfl, _, rfl, l, _, _, _, rfl, rfl, t1.seq hl3, aty, _, rfl, _, rfl, p, _, _, a, rfl, rfl, upd_same, ix ws a rfl al, ?_⟩
    rw [upd_upd, ← List.map_set]
    refine ⟨_, rfl, _, rfl, _, rfl, p, _, _, b, rfl, rfl, upd_same, ix (ws.set a y) b (by rw [List.length_set]) bl, ?_⟩
    rw [upd_upd, ← List.map_set]
    refine ⟨_, rfl, k p _ _ (s3.trans' (Same.new np)) upd_same (few0 _ ?_ fun z hz => ?_)⟩
    · rw [List.length_set, List.length_set]; omega
    · rcases List.mem_or_eq_of_mem_set hz with h | h
      · rcases List.mem_or_eq_of_mem_set h with h | h
        · exact .inl h
        · rw [h]; exact .inl my
      · rw [h]; exact .inl mx
def spSpoilt (K : PySem.W.Frag) : Sp := fun vs H Q _ => ∃ (q : Addr) (x : Str) (d0 d1 d2 : Nat), vs = [.str x, .ref q] ∧ SqL K H q [.int d0, .int d1, .int d2] ∧ x.length ≤ 200 ∧ ∀ y H', Same H H' → y.length ≤ 1000 → Q (.str y) H'
abbrev N_sp : List Str := ["_law_text_here", "_law_drawn", "_law_signs", "_law_at", "_law_sign"]
abbrev P_sp : List Str := ["_law_text_here", "_law_drawn"]
theorem sc_sp : FnScope N_sp P_sp (defScope s_spoilt) := ⟨rfl, rfl, rfl, by decide +kernel, rfl, by decide +kernel, by decide +kernel⟩
def strOf : Stmt → Str
  | .Assign _ (.Constant (.str x) _ _) _ => x
  | _ => ""
abbrev sgS : Str := strOf ((defBody s_spoilt).getD 0 (.Pass ⟨0, 0, 0, 0⟩))
theorem ok_spoilt {f : Addr} {fd : FuncData} (D : Df K mg "_law_spoilt" s_spoilt P_sp f fd) (B : Bt mg) : FnOk P w K mg base (CXE P w) 1 f fd P_sp (spSpoilt K) := by
  refine D.F.okN sc_sp (fun vs H Q E h => ?_) (fun cdv A outer s H vs Q E hr h => ?_)
  · obtain ⟨q, x, d0, d1, d2, rfl, _⟩ := h
    rfl
  · obtain ⟨q, x, d0, d1, d2, rfl, hq, lx, k⟩ := h
    refine ⟨_, pss_cons (ps_set (i := 2) sc_sp.nd rfl (Or.inl rfl) pe_str)
      (pss_cons (ps_set (i := 3) sc_sp.nd rfl (Or.inl rfl) (pe_op op_mod (pe_ix ix_list (pv 1) pe_int (fun _ _ => rfl)) (pe_op op_add (pe_callB call_len_str (by rfl) B.len PySem.boot_len (pa_cons (pv 0) pa_nil)) pe_int)))
      (pss_cons (ps_set (i := 4) sc_sp.nd rfl (Or.inl rfl) (pe_ix ix_str (pv 2) (pe_op op_mod (pe_ix ix_list (pv 1) pe_int (fun _ _ => rfl)) (pe_callB call_len_str (by rfl) B.len PySem.boot_len (pa_cons (pv 2) pa_nil))) (fun _ _ => rfl)))
      (pss_cons (ps_if (pt_cmpR op_eq (pe_ix ix_list (pv 1) pe_int (fun _ _ => rfl)) pe_int (nomark _)) (pss_one (ps_ret (pe_op op_add_str (pe_op op_add_str (pe_slice sl_strX (pv 0) po_none (po_some (pv 3))) (pv 4)) (pe_slice sl_strX (pv 0) (po_some (pv 3)) po_none)))) pss_nil)
      (pss_cons (ps_if (pt_cmpR op_eq (pe_ix ix_list (pv 1) pe_int (fun _ _ => rfl)) pe_int (nomark _)) (pss_one (ps_ret (pe_op op_add_str (pe_op op_add_str (pe_slice sl_strX (pv 0) po_none (po_some (pv 3))) (pv 4)) (pe_slice sl_strX (pv 0) (po_some (pe_op op_add (pv 3) pe_int)) po_none)))) pss_nil)
      (pss_cons (ps_if (pt_cmpR op_eq (pe_ix ix_list (pv 1) pe_int (fun _ _ => rfl)) pe_int (nomark _)) (pss_one (ps_ret (pe_op op_add_str (pe_slice sl_strX (pv 0) po_none (po_some (pv 3))) (pe_slice sl_strX (pv 0) (po_some (pe_op op_add (pv 3) pe_int)) po_none)))) pss_nil)
      (pss_one (ps_ret (pe_ix ix_list (pe_lst (pa_cons (pe_op op_add_str (pv 0) pe_str) (pa_cons (pe_op op_add_str pe_str (pv 0)) (pa_cons (pe_op op_add_str (pv 0) pe_str) (pa_strrep (i := 0) rfl (Or.inl rfl) (pa_cons (pv 0) pa_nil) rfl))))) (pe_op op_mod (pe_ix ix_list (pv 1) pe_int (fun _ _ => rfl)) pe_int) (fun _ _ => rfl))))))))), ?_⟩
    have lx' : x.length ≤ sizeLine := len_ok (by omega)
    have big : ∀ n, n ≤ 1000 → n ≤ sizeLine := fun n h => len_ok' h
    refine ⟨_, rfl, q, _, _, _, rfl, rfl, hq, (show _ = some (V.int d1) from rfl), _, rfl, _, rfl, lx', _, _, rfl, rfl, _, _, rfl, rfl, by omega, ?_⟩
    obtain ⟨a, ea⟩ : ∃ a : Nat, (d1 : Int) % ((x.length : Int) + 1) = (a : Int) := Int.eq_ofNat_of_zero_le (Int.emod_nonneg _ (by omega))
    show gName 3 (V.int ((d1 : Int) % ((x.length : Int) + 1))) _ _ _
    rw [ea]
    obtain ⟨c, ec⟩ : ∃ c, atI sgS.cps.toList ((d2 : Int) % (sgS.length : Int)) = some c := by
      obtain ⟨m, em⟩ : ∃ m : Nat, (d2 : Int) % (sgS.length : Int) = (m : Int) := ⟨d2 % sgS.length, by omega⟩
      have sl : 0 < sgS.length := by decide
      have ml : m < sgS.length := by have := Int.emod_lt_of_pos (d2 : Int) (show (0 : Int) < (sgS.length : Int) by omega); omega
      exact ⟨_, by rw [em]; exact atI_nat (List.getElem?_eq_getElem (by rw [← len_list]; exact ml))⟩
    refine ⟨_, rfl, _, rfl, q, _, _, _, rfl, rfl, hq, (show _ = some (V.int d2) from rfl), _, rfl, _, rfl, by decide, _, _, rfl, rfl, (by show (0 : Int) < (sgS.length : Int); decide), _, _, _, rfl, rfl, by decide, ec, ?_⟩
    have s1 : (⟨#[c]⟩ : Str).length = 1 := rfl
    have sa := Txt.slice_le x none (some (a : Int))
    have sb := Txt.slice_le x (some (a : Int)) none
    have sc := Txt.slice_le x (some ((a : Int) + 1)) none
    refine ⟨_, rfl, q, _, _, _, rfl, rfl, hq, (show _ = some (V.int d0) from rfl), rfl, _, rfl, ite2 (fun z => ?_) (fun z => ?_)⟩
    · refine ⟨_, rfl, _, rfl, _, rfl, _, rfl, lx', _, rfl, _, _, rfl, rfl, big _ (by omega), _, rfl, _, rfl, _, rfl, _, rfl, lx', _, _, rfl, rfl, big _ (by rw [add_len]; omega), k _ H (Same.refl H) (by rw [add_len, add_len]; omega)⟩
    refine ⟨_, rfl, q, _, _, _, rfl, rfl, hq, (show _ = some (V.int d0) from rfl), rfl, _, rfl, ite2 (fun z => ?_) (fun z => ?_)⟩
    · refine ⟨_, rfl, _, rfl, _, rfl, _, rfl, lx', _, rfl, _, _, rfl, rfl, big _ (by omega), _, rfl, _, rfl, _, _, rfl, rfl, _, rfl, _, rfl, lx', _, _, rfl, rfl, big _ (by rw [add_len]; omega), k _ H (Same.refl H) (by rw [add_len, add_len]; omega)⟩
    refine ⟨_, rfl, q, _, _, _, rfl, rfl, hq, (show _ = some (V.int d0) from rfl), rfl, _, rfl, ite2 (fun z => ?_) (fun z => ?_)⟩
    · refine ⟨_, rfl, _, rfl, _, rfl, _, rfl, lx', _, rfl, _, rfl, _, _, rfl, rfl, _, rfl, _, rfl, lx', _, _, rfl, rfl, big _ (by omega), k _ H (Same.refl H) (by rw [add_len]; omega)⟩
    have n1 : ∀ y : Str, y.length = 1 → y.length + x.length ≤ sizeLine ∧ x.length + y.length ≤ sizeLine := fun y h => ⟨big _ (by omega), big _ (by omega)⟩
    refine ⟨_, rfl, _, _, rfl, rfl, (n1 _ rfl).2, _, rfl, _, _, rfl, rfl, (n1 _ rfl).1, _, rfl, _, _, rfl, rfl, (n1 _ rfl).2, x, rfl, by omega, fun y hy => ?_⟩
    refine ⟨_, rfl, len_le (show 6 ≤ 100 by decide), fun p np => ?_⟩
    have t1 := Same.new (o := .lst [V.str (x ++ ("\n" : Str)), .str ((" " : Str) ++ x), .str (x ++ (" " : Str)), .str "", .str y, .str x]) np
    refine ⟨_, rfl, q, _, _, _, rfl, rfl, t1.seq hq, (show _ = some (V.int d2) from rfl), _, _, rfl, rfl, (by show (0 : Int) < 6; decide), ?_⟩
    have l3 : ∀ u : Str, u.length = 1 → (x ++ u).length ≤ 1000 ∧ (u ++ x).length ≤ 1000 := fun u h => ⟨by rw [add_len]; omega, by rw [add_len]; omega⟩
    have m6 : (d2 : Int) % 6 = 0 ∨ (d2 : Int) % 6 = 1 ∨ (d2 : Int) % 6 = 2 ∨ (d2 : Int) % 6 = 3 ∨ (d2 : Int) % 6 = 4 ∨ (d2 : Int) % 6 = 5 := by omega
    show rIxL K _ (V.int ((d2 : Int) % 6)) _ _
    rcases m6 with e | e | e | e | e | e <;> rw [e]
    · exact ⟨p, _, _, _, rfl, rfl, SqL.of upd_same, rfl, k _ _ t1 (l3 _ rfl).1⟩
    · exact ⟨p, _, _, _, rfl, rfl, SqL.of upd_same, rfl, k _ _ t1 (l3 _ rfl).2⟩
    · exact ⟨p, _, _, _, rfl, rfl, SqL.of upd_same, rfl, k _ _ t1 (l3 _ rfl).1⟩
    · exact ⟨p, _, _, _, rfl, rfl, SqL.of upd_same, rfl, k _ _ t1 (by decide)⟩
    · exact ⟨p, _, _, _, rfl, rfl, SqL.of upd_same, rfl, k _ _ t1 (by omega)⟩
    · exact ⟨p, _, _, _, rfl, rfl, SqL.of upd_same, rfl, k _ _ t1 (by omega)⟩
end
end K44
set_option Elab.async false
set_option linter.all false
set_option maxRecDepth 100000
set_option maxHeartbeats 1000000
namespace K44
open PySem L2
open PyProof.Rows (envOfC)
abbrev s_word : Stmt := top 26
abbrev s_law : Stmt := top 29
def kD : Key → Dt
  | .inl i => .int i
  | .inr x => .str x
theorem eqb_keys : ∀ ks : List Key, Dt.eqb.eqbs (ks.map kD) (ks.map kD) = true
  | [] => rfl
  | k :: r => by
    show ((kD k).eqb (kD k) && Dt.eqb.eqbs (r.map kD) (r.map kD)) = true
    rw [eqb_keys r]
    cases k <;> simp [kD, Dt.eqb]
theorem deep_keys : ∀ ks : List Key, Dt.deep.deeps (ks.map kD) = 0
  | [] => rfl
  | k :: r => by
    show max (kD k).deep (Dt.deep.deeps (r.map kD)) = 0
    rw [deep_keys r]
    cases k <;> rfl
theorem den_keys {K : PySem.W.Frag} {H : Hp} {t : Addr} {ks : List Key} (h : SqT K H t (ks.map kV)) (hl : ks.length ≤ 100) : Den K H (.ref t) (.tup (ks.map kD)) := by
  refine .tup h (by rw [List.length_map, List.length_map]) (by rw [List.length_map]; omega) fun i x d hx hd => ?_
  rw [List.getElem?_map] at hx hd
  cases z : ks[i]? with
  | none => rw [z] at hx; cases hx
  | some k =>
    rw [z] at hx hd
    cases hx
    cases hd
    cases k with
    | inl i => exact .int i
    | inr x => exact .str x
theorem den_one {K : PySem.W.Frag} {H : Hp} {p : Addr} {a : Str} (h : H p = some (.tup [.str a])) : Den K H (.ref p) (.tup [.str a]) := by
  refine .tup (.inl (.inl h)) rfl (show 1 ≤ 5000 by decide) fun i u v hu hv => ?_
  match i, hu, hv with
  | 0, hu, hv => cases hu; cases hv; exact .str a
  | _ + 1, hu, _ => cases hu
theorem den_two {K : PySem.W.Frag} {H : Hp} {p : Addr} {a : Str} {x : V} {d : Dt} (h : H p = some (.tup [.str a, x])) (hx : Den K H x d) : Den K H (.ref p) (.tup [.str a, d]) := by
  refine .tup (.inl (.inl h)) rfl (show 2 ≤ 5000 by decide) fun i u v hu hv => ?_
  match i, hu, hv with
  | 0, hu, hv => cases hu; cases hv; exact .str a
  | 1, hu, hv => cases hu; cases hv; exact hx
  | _ + 2, hu, _ => cases hu
theorem eqb_one (a : Str) : (Dt.tup [.str a]).eqb (.tup [.str a]) = true := by
  show (decide (a = a) && true) = true
  rw [decide_eq_true rfl]; rfl
theorem eqb_two (a : Str) (ks : List Key) : (Dt.tup [.str a, .tup (ks.map kD)]).eqb (.tup [.str a, .tup (ks.map kD)]) = true := by
  show (decide (a = a) && (Dt.eqb.eqbs (ks.map kD) (ks.map kD) && true)) = true
  rw [decide_eq_true rfl, eqb_keys]; rfl
theorem deep_two (a : Str) (ks : List Key) : (Dt.tup [.str a, .tup (ks.map kD)]).deep ≤ 2 := by
  show 1 + max 0 (max (1 + Dt.deep.deeps (ks.map kD)) 0) ≤ 2
  rw [deep_keys]
  decide
theorem rdM_len {ws : List Str} {ks : List Key} (h : rdM ws = some ks) : ks.length ≤ 100 := by
  cases ws with
  | nil =>
    have : rdM [] = none := by unfold rdM; cases formOf (([] : List Str).headD "") <;> rfl
    rw [this] at h; cases h
  | cons x t =>
    have h : readF (formOf x) (x :: t) = some ks := h
    cases fo : formOf x with
    | none => rw [fo] at h; cases h
    | some bs =>
      rw [fo] at h
      have h : (if t.length = bs.length then (readL t bs).map (Sum.inr x :: ·) else none) = some ks := h
      by_cases c : t.length = bs.length
      · rw [if_pos c] at h
        cases e : readL t bs with
        | none => rw [e] at h; cases h
        | some l =>
          rw [e] at h
          cases h
          have := form_le fo
          unfold readL at e
          split at e
          · cases e
            rw [List.length_cons, List.length_map, List.length_range]
            omega
          · cases e
      · rw [if_neg c] at h; cases h
theorem deed_small {h : Str} {ks : List Key} {bs : List Bool} (d : Deed h ks bs) : Small (Sum.inr h :: ks) := by
  refine ⟨by rw [List.length_cons, d.len]; have := form_le d.form; omega, fun k hk => ⟨by have := (d.free k hk).2; omega, fun i e => ?_⟩⟩
  subst e
  rcases List.mem_cons.mp hk with z | z
  · cases z
  · obtain ⟨j, hj, e⟩ := List.getElem_of_mem z
    have hb : j < bs.length := by rw [← d.len]; exact hj
    have o := d.ok j _ _ (List.getElem?_eq_getElem hj) (List.getElem?_eq_getElem hb)
    rw [e] at o
    cases hbv : bs[j] with
    | false => rw [hbv] at o; exact o.elim
    | true =>
      rw [hbv] at o
      obtain ⟨o1, o2⟩ := o
      by_cases z0 : i.natAbs = 0
      · rw [z0]; decide
      · refine Nat.lt_of_lt_of_le ((Nat.log2_lt z0).mpr (show i.natAbs < 2 ^ 30 by omega)) (by decide)
theorem text_short {h : Str} {ks : List Key} {bs : List Bool} (d : Deed h ks bs) : (Txt.join " " ((Sum.inr h :: ks : List Key).map kT)).length ≤ 200 := by
  have e2 : Txt.join " " ((Sum.inr h :: ks : List Key).map kT) = Str.join " " ((Sum.inr h :: ks : List Key).map kT) := StrLaws.glued_eq_join _ _
  rw [e2]
  refine Nat.le_trans (join_len _) ?_
  have s1 : (Sum.inr h :: ks : List Key).length ≤ 6 := by rw [List.length_cons, d.len]; have := form_le d.form; omega
  have h1 : (((Sum.inr h :: ks : List Key).map kT).map (·.length)).sum ≤ 12 * (((Sum.inr h :: ks : List Key).map kT).map (·.length)).length := sum_le fun x hx => by
    obtain ⟨y, hy, rfl⟩ := List.mem_map.mp hx
    obtain ⟨k, hk, rfl⟩ := List.mem_map.mp hy
    exact (d.free k hk).2
  rw [List.length_map, List.length_map] at h1
  rw [List.length_map]
  omega
def qL : Str := "law" ++ ".<locals>." ++ "<lambda>"
theorem TabOk.ne {H : Hp} {Pt b : Addr} {o : HO} (t : TabOk H Pt qL) (e : H b = some o) (n : ∀ ps, o ≠ .tbl ps) : b ≠ Pt := fun z => by
  obtain ⟨ps, hp, _⟩ := t.ex
  rw [z, hp] at e; cases e; exact n _ rfl
theorem keepP {H H' : Hp} {Pt b : Addr} {o : HO} (t : TabOk H Pt qL) (s : SameP Pt H H') (e : H b = some o) (n : ∀ ps, o ≠ .tbl ps) : H' b = some o := s _ _ (TabOk.ne t e n) e
structure Fc (Pt : Addr) (H : Hp) (p : Addr) (ms : List Int) : Prop where
  tb : TabOk H Pt qL
  ep : H p = some (.lst (ms.map V.int))
theorem Fc.mono {Pt : Addr} {H H' : Hp} {p : Addr} {ms : List Int} (h : Fc Pt H p ms) (s : Same H H') : Fc Pt H' p ms := ⟨h.tb.same s, s _ _ h.ep⟩
theorem Fc.monoP {Pt : Addr} {H H' : Hp} {p : Addr} {ms : List Int} (h : Fc Pt H p ms) (T : TabOk H' Pt qL) (s : SameP Pt H H') : Fc Pt H' p ms := ⟨T, keepP h.tb s h.ep (fun ps z => by cases z)⟩
def ML (Pt : Addr) : St → Hp → Prop := fun σ H => ∃ (p : Addr) (ms : List Int) (v1 v2 v4 v5 v6 : Option V) (x : Str), σ = [some (.ref p), v1, v2, some (.str x), v4, v5, v6] ∧ Fc Pt H p ms ∧ x.length ≤ 100000
section
variable {P : Program} {w : World} {K : PySem.W.Frag} {mg : Str → Option Value} {base : Heap} {W BC fW fC : Addr} {gW gC : FuncData}
abbrev Nw : List Str := ["_law_asked", "e"]
theorem sc_word : FnScope Nw ["_law_asked"] (defScope s_word) := ⟨rfl, rfl, rfl, by decide +kernel, rfl, by decide +kernel, by decide +kernel⟩
theorem ok_word {fw f : Addr} {gw fdl : FuncData} {k : Nat} {spl : Sp} (D : Df K mg "_law_word" s_word ["_law_asked"] fw gw) (T : Xs K mg W BC fW fC gW gC) (ho : base.get? f = some { cls := .type "function", data := .func fdl }) (hb : Binds K fdl [] [])
    (G : FnOk P w K mg base (CXE P w) k f fdl [] spl) : FnOk P w K mg base (CXE P w) (k + 1) fw gw ["_law_asked"] (spWord K W f spl) := by
  refine D.F.okN sc_word (fun vs H Q E h => ?_) (fun cdv A outer s H vs Q E hr h => ?_)
  · obtain ⟨rfl, _⟩ := h
    rfl
  · obtain ⟨rfl, h⟩ := h
    refine ⟨_, pss_one (ps_try (i := 1) (th := tRet (tTup (tCons (tXGet K (tVar 1) "word") tNil))) (Eh := wordE K W Q) (W := W) rfl rfl sc_word.nd rfl rfl (by rfl) T.mW T.kW
      (fun pins Ey hp => pss_one (ps_ret (pe_tup (pa_cons pe_str (pa_cons (pe_callL (i := 0) G hr ho hb hp rfl (Or.inl rfl)) pa_nil)))))
      (fun ea => by exact pss_one (ps_ret (pe_tup (pa_cons (pe_xget (pv 1)) pa_nil))))), ?_⟩
    refine ⟨⟨rfl, h⟩, fun C dx H0 ea T' H' he sx n0 ex => ?_⟩
    obtain ⟨Ca, dx', ww, e1, e2, e3, xs, xk, kk⟩ := he
    cases e1
    cases e2
    have ne : dx ≠ ea := ne_of_none e3 n0
    refine ⟨xs, _, rfl, ea, C, dx, _, _, .str ww, rfl, ex, sx dx _ ne e3, rfl, xk, xk.nw, len_le (show 1 ≤ 100 by decide), fun r hr' => ?_⟩
    exact kk H' r (fun b o e => sx b o (ne_of_none e n0) e) hr'
abbrev N_lw : List Str := ["_law_script", "_law_k", "_law_cell_here", "_law_text_here", "_law_drawn", "_law_deed", "_law_due"]
abbrev P_lw : List Str := ["_law_script"]
theorem sc_lw : FnScope N_lw P_lw (defScope s_law) := ⟨rfl, rfl, rfl, by decide +kernel, rfl, by decide +kernel, by decide +kernel⟩
abbrev XL (P : Program) (w : World) (K : PySem.W.Frag) (mg : Str → Option Value) (base : Heap) (f : Addr) (cc : Addr) (A : Around) (outer : List Env) (s : Shared) (H : Hp) (E : XK) : Cx :=
  (cxOf (CXE P w) P w K mg base N_lw "law" (defScope s_law) f (.ref cc) A outer s H E).nox
variable {f cc Pt : Addr}
def spLaw (K : PySem.W.Frag) (Pt : Addr) : Sp := fun vs H Q _ => ∃ (a : Addr) (ns : List Int), vs = [.ref a] ∧ SqL K H a (ns.map V.int) ∧ ns.length ≤ 63 ∧ H Pt = some (.tbl #[]) ∧ ∀ H', Q (.bl true) H'
theorem ok_law {oc kV doc pm ct : Value} {od an : Option Addr} {osl : Array (Option Value)} {fl fr fs fa ft fb fp fe fn fw : Addr} {gl gr gs ga gt gb gp ge gn gw : FuncData}
    (lk : K.lookup f = some ⟨oc, od, .func (PySem.W.fnOf "law" "law" (defArgs s_law) (defBody s_law) (defScope s_law) .none kV doc pm an (.ref cc) ct), osl⟩) (hcd : PySem.W.codeIn K (.ref cc) "law" = true)
    (Dl : Df K mg "_law_cell" s_cell ["_law_script", "_law_k"] fl gl) (Dr : Df K mg "_law_draws" s_draws Pdr fr gr) (Ds : Df K mg "_law_same" s_same Ps fs gs) (Da : Df K mg "_law_any_deed" s_anydeed P_ad fa ga) (Ga : FnOk P w K mg base (CXE P w) 3 fa ga P_ad spAdeed)
    (Dt' : Df K mg "_law_text" s_ltext P_lt ft gt) (Gt : FnOk P w K mg base (CXE P w) 1 ft gt P_lt (spText K)) (Db : Df K mg "_law_bent" s_bent P_be fb gb) (Gb : FnOk P w K mg base (CXE P w) 1 fb gb P_be (spBent K)) (Dp : Df K mg "_law_spoilt" s_spoilt P_sp fp gp) (Gp : FnOk P w K mg base (CXE P w) 1 fp gp P_sp (spSpoilt K))
    (De : Df K mg "_law_reads" s_lreads P_lr fe ge) (Ge : FnOk P w K mg base (CXE P w) 2 fe ge P_lr spReads) (Dn : Df K mg "read_deed" s_rdeed P_rd fn gn) (Gn : ∀ base, FnOk P w K mg base (CXE P w) 6 fn gn P_rd (spRdeed BC)) (Dw : Df K mg "_law_word" s_word ["_law_asked"] fw gw)
    (X : Xs K mg W BC fW fC gW gC) (B : Bt mg) (M : Gm P w K mg) (Cd : PySem.W.CodeHd base cc Pt) (BM : BMain mg base) :
    FnOk P w K mg base (CXE P w) 9 f (PySem.W.fnOf "law" "law" (defArgs s_law) (defBody s_law) (defScope s_law) .none kV doc pm an (.ref cc) ct) ["_law_script"] (spLaw K Pt) := by
  refine fn_of lk hcd sc_lw (fun vs H Q E h => ?_) fun A outer s H vs Q E hr h => ?_
  · obtain ⟨a, ns, rfl, _⟩ := h
    rfl
  obtain ⟨a, ns, rfl, hS, hl, hP, k⟩ := h
  suffices hsuff : ∃ t, PSs (XL P w K mg base f cc A outer s H E) (defBody s_law) t ∧ t { nx := fun _ H' => Q .non H', rt := Q } (start N_lw [.ref a]) H by
    obtain ⟨t, h1, h2⟩ := hsuff
    exact ⟨t, h1.nox, h2⟩
  refine ⟨_, pss_cons (ps_set (i := 0) sc_lw.nd rfl (Or.inl rfl) (pe_slice sl_list (pv 0) po_none (po_some pe_int)))
      (pss_cons (ps_for PassesOwn.never rfl (pi_range1 (by rfl) B.range (pa_cons (pe_callB (call_max2 rfl) (by rfl) M.max (by rfl) (pa_cons pe_int (pa_cons (pe_callB call_len_seq (by rfl) B.len PySem.boot_len (pa_cons (pv 0) pa_nil)) pa_nil))) pa_nil)) (pg_name (i := 1) sc_lw.nd rfl (Or.inl rfl))
      (pss_cons (ps_set (i := 2) sc_lw.nd rfl (Or.inl rfl) (pe_op op_add (pe_fn Dl (ok_cell Dl B) (hr.mono (by decide)) passN (pa_cons (pv 0) (pa_cons (pv 1) pa_nil))) (pe_op op_mul pe_int (pv 1))))
      (pss_cons (ps_set (i := 3) sc_lw.nd rfl (Or.inr rfl) (pe_fn Dt' Gt (hr.mono (by decide)) passN (pa_cons (pe_fn Da Ga (hr.mono (by decide)) passN (pa_cons (pv 2) pa_nil)) pa_nil)))
      (pss_cons (ps_set (i := 4) sc_lw.nd rfl (Or.inl rfl) (pe_fn Dr (ok_draws Dr B) (hr.mono (by decide)) passN (pa_cons (pe_op op_add (pv 2) pe_int) (pa_cons (pe_lst (pa_cons pe_int (pa_cons pe_int (pa_cons pe_int pa_nil)))) pa_nil))))
      (pss_cons (ps_cut (ML Pt) (ps_if (pt_cmpR op_lt (pe_ix ix_list (pv 4) pe_int (fun _ _ => rfl)) pe_int (nomark _)) (pss_one (ps_set (i := 3) sc_lw.nd rfl (Or.inr rfl) (pe_bm PySem.F.plainAttrs_str PySem.F.slot_str_join PySem.F.type_str_join mt_join pe_str (pa_cons (pe_fn Db Gb (hr.mono (by decide)) passN (pa_cons (pe_bm PySem.F.plainAttrs_str PySem.F.slot_str_split PySem.F.type_str_split mt_split (pv 3) (pa_cons pe_str pa_nil)) (pa_cons (pv 4) pa_nil))) pa_nil)))) (pss_one (ps_set (i := 3) sc_lw.nd rfl (Or.inr rfl) (pe_fn Dp Gp (hr.mono (by decide)) passN (pa_cons (pv 3) (pa_cons (pv 4) pa_nil)))))))
      (pss_cons (ps_set (i := 5) sc_lw.nd rfl (Or.inl rfl) (pe_fn De Ge (hr.mono (by decide)) passN (pa_cons (pv 3) pa_nil)))
      (pss_cons (ps_set (i := 6) sc_lw.nd rfl (Or.inl rfl) (pe_ifExp (pt_cmp (pc_isN (pv 5))) (pe_tup (pa_cons pe_str pa_nil)) (pe_tup (pa_cons pe_str (pa_cons (pv 5) pa_nil)))))
      (pss_one (ps_if (pt_not (pt_val (pe_fn Ds (ok_same Ds B 3) (hr.mono (by decide)) passN (pa_cons (pe_word (W := W) (P := Pt) (c := cc) (kl := 6) (kw := 8) (N := ["_law_text_here"]) (fm := [3]) (t := fun E => tCall (spRdeed BC) [] E (tCons (tVar 0) tNil)) Dw (fun base f fdl spl ho hb G => ok_word Dw X ho hb G) (hr.mono (by decide)) rfl Cd BM (fun _ => rfl) (by exact ⟨rfl, rfl, rfl, by decide +kernel⟩) (by exact (show ∀ y : Str × NameKind, y ∈ _ → y.2 = NameKind.free → (defScope s_law).names.lookup y.1 = some NameKind.cell by decide +kernel)) rfl (by intro i x h; match i, h with | 0, h => cases h; exact ⟨rfl, 3, rfl, rfl⟩ | _ + 1, h => cases h) (by intro base f c' A outer s H E hr; exact pe_fn Dn (Gn base) hr passL (pa_cons (pv 0) pa_nil)) passN) (pa_cons (pv 6) pa_nil))))) (pss_one (ps_ret pe_bl)) pss_nil)))))))))
      (pss_one (ps_ret pe_bl))), ?_⟩
  have tb0 : TabOk H Pt qL := ⟨#[], hP, True.intro, fun pos cv z => by cases z⟩
  refine ⟨_, rfl, _, rfl, a, _, rfl, hS, fun p np => ?_⟩
  rw [show cutV (ns.map V.int) none (some 63) = (ns.map V.int).take 63 from cut_to _ 63, List.take_of_length_le (by rw [List.length_map]; exact hl)]
  have f0 : Fc Pt (upd H p (.lst (ns.map V.int))) p ns := ⟨tb0.same (Same.new np), upd_same⟩
  refine ⟨_, rfl, p, _, rfl, .inl (SqL.of upd_same), _, _, rfl, _, rfl, ?_, ?_, ?_⟩
  · split <;> rw [List.length_map] at * <;> omega
  · split <;> rw [List.length_map] at * <;> omega
  generalize (if (((ns.map V.int).length : Nat) : Int) > 20 then (((ns.map V.int).length : Nat) : Int) else 20).toNat = N
  refine for_range (fun i σ H2 => ∃ (p : Addr) (ms : List Int) (v1 v2 v3 v4 v5 v6 : Option V), σ = [some (.ref p), v1, v2, v3, v4, v5, v6] ∧ Fc Pt H2 p ms) ⟨p, ns, none, none, none, none, none, none, rfl, f0⟩ ?_ ?_
  · rintro i σ H2 hi ⟨p, ms, v1, v2, v3, v4, v5, v6, rfl, fc⟩
    rw [Int.zero_add]
    refine ⟨_, rfl, _, rfl, p, ms, i, rfl, SqL.of fc.ep, _, rfl, _, _, rfl, rfl, .inl ⟨by decide, by decide⟩, _, _, rfl, rfl, ?_⟩
    refine ⟨_, rfl, _, rfl, fun h ks bs t H3 d s3 nt e3 => ⟨t, _, rfl, SqT.of e3, deed_small d, fun H4 s4 => ?_⟩⟩
    obtain ⟨tx, etx⟩ : ∃ tx, tx = Txt.join " " ((Sum.inr h :: ks : List Key).map kT) := ⟨_, rfl⟩
    have ltx : tx.length ≤ 200 := by rw [etx]; exact text_short d
    have stx : Txt.split tx " " = (Sum.inr h :: ks : List Key).map kT := by rw [etx]; exact d.words
    rw [← etx]
    have f4 := fc.mono (s3.trans' s4)
    refine ⟨_, rfl, _, _, rfl, rfl, len_le (show 3 ≤ 100 by decide), fun p1 n1 => ⟨_, p1, [9, 101, 89], rfl, SqL.of upd_same, by decide, by decide, fun q H5 s5 nq e5 => ?_⟩⟩
    have f5 := f4.mono ((Same.new n1).trans' s5)
    generalize hc : cellM ms i + 3 * (i : Int) + 7 = c at e5
    obtain ⟨d0, g0⟩ := Int.eq_ofNat_of_zero_le (Int.emod_nonneg (mixM c) (show (9 : Int) ≠ 0 by decide))
    obtain ⟨d1, g1⟩ := Int.eq_ofNat_of_zero_le (Int.emod_nonneg (mixM c / 9) (show (101 : Int) ≠ 0 by decide))
    obtain ⟨d2, g2⟩ := Int.eq_ofNat_of_zero_le (Int.emod_nonneg (mixM c / 9 / 101) (show (89 : Int) ≠ 0 by decide))
    have e5 : H5 q = some (.lst [.int d0, .int d1, .int d2]) := by
      rw [e5]
      show some (HO.lst [V.int (mixM c % 9), V.int (mixM c / 9 % 101), V.int (mixM c / 9 / 101 % 89)]) = _
      rw [g0, g1, g2]
    refine ⟨?_, ?_⟩
    · refine ⟨_, rfl, q, _, _, _, rfl, rfl, SqL.of e5, (show _ = some (V.int d0) from rfl), _, _, rfl, rfl, _, rfl, ite2 (fun z => ?_) (fun z => ?_)⟩
      · refine ⟨rfl, _, rfl, rfl, tx, rfl, rfl, by omega, fun l nl => ⟨_, rfl, l, q, _, d0, d1, d2, rfl, SqL.of upd_same, SqL.of (Same.new nl _ _ e5), ?_, ?_, fun r zs H6 s6 er fw => ?_⟩⟩
        · rw [stx, List.length_map]; show 1 ≤ _ + 1; omega
        · rw [stx]
          refine ⟨?_, fun y hy => ?_⟩
          · rw [List.length_map, List.length_cons, d.len]; have := form_le d.form; omega
          · obtain ⟨k0, hk, rfl⟩ := List.mem_map.mp hy
            exact (d.free k0 hk).2
        · have sum : (zs.map (·.length)).sum ≤ 100 * 8 := by
            have h1 := sum_le (l := zs.map (·.length)) (m := 100) fun y hy => by
              obtain ⟨u, hu, rfl⟩ := List.mem_map.mp hy
              exact fw.2 u hu
            rw [List.length_map] at h1
            have := fw.1
            omega
          have lz := fw.1
          refine ⟨_, r, zs, rfl, rfl, SqL.of er, by decide, by omega, p, ms, _, _, _, _, _, _, rfl, f5.mono ((Same.new nl).trans' s6), ?_⟩
          have e2 : Txt.join " " zs = Str.join " " zs := StrLaws.glued_eq_join _ _
          rw [e2]
          exact Nat.le_trans (join_len zs) (by omega)
      · exact ⟨_, rfl, _, rfl, q, tx, d0, d1, d2, rfl, SqL.of e5, ltx, fun y H6 s6 ly => ⟨p, ms, _, _, _, _, _, y, rfl, f5.mono s6, by omega⟩⟩
    · rintro σ' H' ⟨p, ms, v1, v2, v4, v5, v6, x, rfl, fc, lx⟩
      refine ⟨_, rfl, x, rfl, lx, fun ks' t' H6 e s6 et => ?_, fun e H6 s6 => ?_⟩
      · refine ⟨_, rfl, _, rfl, iteF ⟨_, rfl, len_le (show 2 ≤ 100 by decide), fun T nT => ?_⟩⟩
        have f7 := fc.mono (s6.trans' (Same.new (o := .tup [.str "told", .ref t']) nT))
        have eT : (upd H6 T (.tup [.str "told", .ref t'])) T = some (.tup [.str "told", .ref t']) := upd_same
        have et7 := Same.new (o := .tup [.str "told", .ref t']) nT _ _ et
        refine ⟨f7.tb, fun H8 T8 sp8 => ⟨_, rfl, x, rfl, lx, fun ks2 t2 H9 e2 s9 n9 et2 => toldQ.mk fun r nr => ?_, fun e2 => by rw [e] at e2; cases e2⟩⟩
        rw [e] at e2
        cases e2
        have f8 := f7.monoP T8 sp8
        have s10 := s9.trans' (Same.new (o := .tup [.str "told", .ref t2]) nr)
        have kT8 := s10 _ _ (keepP f7.tb sp8 eT (fun ps z => by cases z))
        have kt8 := s10 _ _ (keepP f7.tb sp8 et7 (fun ps z => by cases z))
        have et10 := Same.new (o := .tup [.str "told", .ref t2]) nr _ _ et2
        have ln := rdM_len e
        refine ⟨_, rfl, .ref r, .ref T, _, _, rfl, den_two upd_same (den_keys (SqT.of et10) ln), den_two kT8 (den_keys (SqT.of kt8) ln), deep_two _ _, fun H11 s11 => ?_⟩
        rw [eqb_two]
        exact ⟨_, rfl, iteF ⟨p, ms, _, _, _, _, _, _, rfl, (f8.mono s10).mono s11⟩⟩
      · refine ⟨_, rfl, _, rfl, iteT ⟨len_le (show 1 ≤ 100 by decide), fun T nT => ?_⟩⟩
        have f7 := fc.mono (s6.trans' (Same.new (o := .tup [.str "bad text"]) nT))
        have eT : (upd H6 T (.tup [.str "bad text"])) T = some (.tup [.str "bad text"]) := upd_same
        refine ⟨f7.tb, fun H8 T8 sp8 => ⟨_, rfl, x, rfl, lx, fun ks2 t2 H9 e2 => (by rw [e] at e2; cases e2), fun _ dx H9 s9 ex => ?_⟩⟩
        have f8 := f7.monoP T8 sp8
        refine ⟨BC, dx, _, rfl, rfl, ex, X.sC, X.kC, fun H10 r s10 nr => ?_⟩
        have s11 := (s9.trans' s10).trans' (Same.new (o := .tup [.str "bad text"]) nr)
        have kT8 := s11 _ _ (keepP f7.tb sp8 eT (fun ps z => by cases z))
        refine ⟨_, rfl, .ref r, .ref T, _, _, rfl, den_one upd_same, den_one kT8, by decide, fun H12 s12 => ?_⟩
        rw [eqb_one]
        exact ⟨_, rfl, iteF ⟨p, ms, _, _, _, _, _, _, rfl, (f8.mono s11).mono s12⟩⟩
  · rintro σ H2 _
    exact k H2
end
end K44
set_option Elab.async false
set_option linter.all false
set_option maxRecDepth 100000
set_option maxHeartbeats 1000000
namespace K44
open PySem L2
def fEnt (w : World) (q : Str × Tok × Addr) : DictEntry := { hash := PyData.keyHash w.params q.1, key := .str q.1 q.2.1, val := .ref q.2.2 }
theorem pairs_of {P : Program} {w : World} : ∀ qs : List (Str × Tok × Addr), Pairs (mixKind P w) (qs.map (fEnt w)) (qs.map fun q => ((Sum.inr q.1 : Key), Value.ref q.2.2))
  | [] => .nil
  | q :: r => .cons (mixKind_str P w q.1 q.2.1) rfl (pairs_of r)
theorem kv_of : ∀ qs : List (Str × Tok × Addr), KV (qs.map fun q => ((Sum.inr q.1 : Key), V.ref q.2.2)) (qs.map fun q => ((Sum.inr q.1 : Key), Value.ref q.2.2))
  | [] => .nil
  | q :: r => .cons ⟨rfl, rfl⟩ (kv_of r)
theorem nodup_inr : ∀ {l : List Str}, l.Nodup → (l.map (Sum.inr : Str → Key)).Nodup
  | [], _ => by simp
  | x :: r, h => by
    rw [List.map_cons, List.nodup_cons]
    rw [List.nodup_cons] at h
    refine ⟨fun z => ?_, nodup_inr h.2⟩
    obtain ⟨y, hy, e⟩ := List.mem_map.mp z
    cases e
    exact h.1 hy
theorem kd_of {P : Program} {w : World} {K : PySem.W.Frag} {d : Addr} {n : Nat} {qs : List (Str × Tok × Addr)} (hd : (d == sysModules) = false) (h : K.lookup d = some { cls := .type "dict", data := .dict (qs.map (fEnt w)).toArray n }) (nd : (qs.map (·.1)).Nodup) :
    KD P K w d (qs.map fun q => ((Sum.inr q.1 : Key), V.ref q.2.2)) := by
  refine ⟨hd, _, _, _, _, h, ⟨rfl, rfl, rfl⟩, rfl, kv_of qs, fun e he => ?_, by simpa using pairs_of qs, ?_⟩
  · have he : e ∈ qs.map (fEnt w) := by simpa using he
    obtain ⟨q, _, rfl⟩ := List.mem_map.mp he
    exact ⟨.inr q.1, mixKind_str P w q.1 q.2.1, rfl⟩
  · rw [List.map_map]
    have e : (qs.map ((·.1) ∘ fun q => ((Sum.inr q.1 : Key), Value.ref q.2.2))) = (qs.map (·.1)).map Sum.inr := by rw [List.map_map]; rfl
    rw [e]
    exact nodup_inr nd
def tupO (od : Option Addr) (its : Array Value) (n : Nat) (sl : Array (Option Value)) : Obj := { cls := .type "tuple", dict := od, data := .seq its n, slots := sl }
theorem sq_of {K : PySem.W.Frag} {a : Addr} {od : Option Addr} {its : List Value} {n : Nat} {sl : Array (Option Value)} {xs : List V} (h : K.lookup a = some (tupO od its.toArray n sl)) (v : Vals xs its) (z : its.length ≤ sizeLine) (H : Hp) : SqT K H a xs :=
  .inr ⟨_, _, n, h, rfl, rfl, by simpa using z, by simpa using v⟩
theorem forms_mk {P : Program} {w : World} {K : PySem.W.Frag} {mg : Str → Option Value} {d a1 a2 a3 a4 a5 a6 a7 : Addr} {n n1 n2 n3 n4 n5 n6 n7 : Nat} {o1 o2 o3 o4 o5 o6 o7 : Option Addr} {s1 s2 s3 s4 s5 s6 s7 : Array (Option Value)} {u1 u2 u3 u4 u5 u6 u7 v1 v2 v3 v4 v5 v6 v7 v8 v9 v10 v11 v12 v13 v14 v15 : Tok}
    (m : mg "DEED_FORMS" = some (.ref d)) (hd : (d == sysModules) = false)
    (h : K.lookup d = some { cls := .type "dict", data := .dict (([("come", u1, a1), ("leave", u2, a2), ("turn", u3, a3), ("swear", u4, a4), ("recant", u5, a5), ("enter", u6, a6), ("strike", u7, a7)] : List (Str × Tok × Addr)).map (fEnt w)).toArray n })
    (t1 : K.lookup a1 = some (tupO o1 #[.str "name" v1, .str "name" v2] n1 s1)) (t2 : K.lookup a2 = some (tupO o2 #[.str "name" v3] n2 s2)) (t3 : K.lookup a3 = some (tupO o3 #[.str "name" v4, .str "number" v5, .str "name" v6] n3 s3))
    (t4 : K.lookup a4 = some (tupO o4 #[.str "name" v7, .str "number" v8, .str "name" v9, .str "number" v10, .str "name" v11] n4 s4)) (t5 : K.lookup a5 = some (tupO o5 #[.str "name" v12, .str "number" v13] n5 s5))
    (t6 : K.lookup a6 = some (tupO o6 #[.str "name" v14] n6 s6)) (t7 : K.lookup a7 = some (tupO o7 #[.str "number" v15] n7 s7)) :
    ∃ d kvs, mg "DEED_FORMS" = some (.ref d) ∧ KD P K w d kvs ∧ ∀ k, (formOf k = none → valV kvs (.inr k) = none) ∧ ∀ bs, formOf k = some bs → ∃ a, valV kvs (.inr k) = some (.ref a) ∧ ∀ H, SqT K H a (bs.map fun b => V.str (kdS b)) := by
  refine ⟨d, _, m, kd_of hd h (show (["come", "leave", "turn", "swear", "recant", "enter", "strike"] : List Str).Nodup by decide +kernel), fun k => ?_⟩
  have v : ∀ s, RelV (.str s) (.str s u1) := fun s => ⟨_, rfl⟩
  have yes : ∀ (s : Str) (bs : List Bool) (a : Addr), formOf s = some bs → valV (([("come", u1, a1), ("leave", u2, a2), ("turn", u3, a3), ("swear", u4, a4), ("recant", u5, a5), ("enter", u6, a6), ("strike", u7, a7)] : List (Str × Tok × Addr)).map fun q => ((Sum.inr q.1 : Key), V.ref q.2.2)) (.inr s) = some (.ref a) →
      (∀ H, SqT K H a (bs.map fun b => V.str (kdS b))) → (formOf s = none → valV (([("come", u1, a1), ("leave", u2, a2), ("turn", u3, a3), ("swear", u4, a4), ("recant", u5, a5), ("enter", u6, a6), ("strike", u7, a7)] : List (Str × Tok × Addr)).map fun q => ((Sum.inr q.1 : Key), V.ref q.2.2)) (.inr s) = none) ∧ ∀ bs, formOf s = some bs → ∃ a, valV (([("come", u1, a1), ("leave", u2, a2), ("turn", u3, a3), ("swear", u4, a4), ("recant", u5, a5), ("enter", u6, a6), ("strike", u7, a7)] : List (Str × Tok × Addr)).map fun q => ((Sum.inr q.1 : Key), V.ref q.2.2)) (.inr s) = some (.ref a) ∧ ∀ H, SqT K H a (bs.map fun b => V.str (kdS b)) :=
    fun s bs a e1 e2 e3 => ⟨fun z => (by rw [e1] at z; cases z), fun bs' z => (by rw [e1] at z; cases z; exact ⟨a, e2, e3⟩)⟩
  have z5 : ∀ m, m ≤ 5 → m ≤ sizeLine := fun m h => Nat.le_trans h (by decide)
  by_cases e1 : k = "come"
  · subst e1
    exact yes _ [false, false] a1 (by decide +kernel) rfl (sq_of t1 (.cons ⟨_, rfl⟩ (.cons ⟨_, rfl⟩ .nil)) (z5 2 (by decide)))
  by_cases e2 : k = "leave"
  · subst e2
    exact yes _ [false] a2 (by decide +kernel) rfl (sq_of t2 (.cons ⟨_, rfl⟩ .nil) (z5 1 (by decide)))
  by_cases e3 : k = "turn"
  · subst e3
    exact yes _ [false, true, false] a3 (by decide +kernel) rfl (sq_of t3 (.cons ⟨_, rfl⟩ (.cons ⟨_, rfl⟩ (.cons ⟨_, rfl⟩ .nil))) (z5 3 (by decide)))
  by_cases e4 : k = "swear"
  · subst e4
    exact yes _ [false, true, false, true, false] a4 (by decide +kernel) rfl (sq_of t4 (.cons ⟨_, rfl⟩ (.cons ⟨_, rfl⟩ (.cons ⟨_, rfl⟩ (.cons ⟨_, rfl⟩ (.cons ⟨_, rfl⟩ .nil))))) (z5 5 (by decide)))
  by_cases e5 : k = "recant"
  · subst e5
    exact yes _ [false, true] a5 (by decide +kernel) rfl (sq_of t5 (.cons ⟨_, rfl⟩ (.cons ⟨_, rfl⟩ .nil)) (z5 2 (by decide)))
  by_cases e6 : k = "enter"
  · subst e6
    exact yes _ [false] a6 (by decide +kernel) rfl (sq_of t6 (.cons ⟨_, rfl⟩ .nil) (z5 1 (by decide)))
  by_cases e7 : k = "strike"
  · subst e7
    exact yes _ [true] a7 (by decide +kernel) rfl (sq_of t7 (.cons ⟨_, rfl⟩ .nil) (z5 1 (by decide)))
  have n1 : ∀ {s : Str}, ¬ k = s → decide ((Sum.inr s : Key) = Sum.inr k) = false := fun h => decide_eq_false fun z => h (by injection z with z; exact z.symm)
  refine ⟨fun _ => ?_, fun bs z => ?_⟩
  · unfold valV
    simp only [List.map_cons, List.map_nil, List.find?_cons, n1 e1, n1 e2, n1 e3, n1 e4, n1 e5, n1 e6, n1 e7, List.find?_nil]
    rfl
  · unfold formOf at z
    rw [if_neg e1, if_neg e2, if_neg e3, if_neg e4, if_neg e5, if_neg e6, if_neg e7] at z
    cases z
end K44
set_option Elab.async false
set_option linter.all false
set_option maxRecDepth 100000
set_option maxHeartbeats 1000000
namespace K44
open PySem L2
theorem all_mk {l : PySem.W.OpenLaw} {w : World} {K : PySem.W.Frag} {h : Heap} {mg : Str → Option Value} {fa fL cc Pt  f1 f2 f3 f4 f5 f6 f7 f8 f9 f10 f11 f12 f13 f14 f15 f16 f17 f18 f19 f20 f21  : Addr} (X : K.In h) (G : h.Ns mainGlobals mg) (hfa : mg "law" = some (.ref fa))
    {odL anL od1 an1 od2 an2 od3 an3 od4 an4 od5 an5 od6 an6 od7 an7 od8 an8 od9 an9 od10 an10 od11 an11 od12 an12 od13 an13 od14 an14 od15 an15 od16 an16 od17 an17 od18 an18 od19 an19 od20 an20 od21 an21  : Option Addr} {slL sl1 sl2 sl3 sl4 sl5 sl6 sl7 sl8 sl9 sl10 sl11 sl12 sl13 sl14 sl15 sl16 sl17 sl18 sl19 sl20 sl21  : Array (Option Value)} {ocL kVL dcL pmL ctL oc1 kV1 dc1 pm1 cd1 ct1 oc2 kV2 dc2 pm2 cd2 ct2 oc3 kV3 dc3 pm3 cd3 ct3 oc4 kV4 dc4 pm4 cd4 ct4 oc5 kV5 dc5 pm5 cd5 ct5 oc6 kV6 dc6 pm6 cd6 ct6 oc7 kV7 dc7 pm7 cd7 ct7 oc8 kV8 dc8 pm8 cd8 ct8 oc9 kV9 dc9 pm9 cd9 ct9 oc10 kV10 dc10 pm10 cd10 ct10 oc11 kV11 dc11 pm11 cd11 ct11 oc12 kV12 dc12 pm12 cd12 ct12 oc13 kV13 dc13 pm13 cd13 ct13 oc14 kV14 dc14 pm14 cd14 ct14 oc15 kV15 dc15 pm15 cd15 ct15 oc16 kV16 dc16 pm16 cd16 ct16 oc17 kV17 dc17 pm17 cd17 ct17 oc18 kV18 dc18 pm18 cd18 ct18 oc19 kV19 dc19 pm19 cd19 ct19 oc20 kV20 dc20 pm20 cd20 ct20 oc21 kV21 dc21 pm21 cd21 ct21  : Value}
    (aL : PySem.W.nsIn K mainGlobals "law" = some (some (.ref fL))) (lL : K.lookup fL = some ⟨ocL, odL, .func (PySem.W.fnOf "law" "law" (defArgs s_law) (defBody s_law) (defScope s_law) .none kVL dcL pmL anL (.ref cc) ctL), slL⟩) (cL : PySem.W.codeIn K (.ref cc) "law" = true)
    {oZ : Value} {dZ : Option Addr} {vZ : Array Value} {sZ : Array (Option Value)} (lZ : K.lookup cc = some ⟨oZ, dZ, .fields vZ, sZ⟩) (hZ : vZ[11]? = some (.ref Pt)) (hH : PySem.W.codeHdIn K cc Pt = true)
    (a1 : PySem.W.nsIn K mainGlobals "is_name" = some (some (.ref f1))) (l1 : K.lookup f1 = some ⟨oc1, od1, .func (PySem.W.fnOf "is_name" "is_name" (defArgs s_isname) (defBody s_isname) (defScope s_isname) .none kV1 dc1 pm1 an1 cd1 ct1), sl1⟩) (c1 : PySem.W.codeIn K cd1 "is_name" = true) (k1 : PySem.W.keepIn K (.ref f1) = true)
    (a2 : PySem.W.nsIn K mainGlobals "is_letter" = some (some (.ref f2))) (l2 : K.lookup f2 = some ⟨oc2, od2, .func (PySem.W.fnOf "is_letter" "is_letter" (defArgs s_isletter) (defBody s_isletter) (defScope s_isletter) .none kV2 dc2 pm2 an2 cd2 ct2), sl2⟩) (c2 : PySem.W.codeIn K cd2 "is_letter" = true) (k2 : PySem.W.keepIn K (.ref f2) = true)
    (a3 : PySem.W.nsIn K mainGlobals "is_figure" = some (some (.ref f3))) (l3 : K.lookup f3 = some ⟨oc3, od3, .func (PySem.W.fnOf "is_figure" "is_figure" (defArgs s_isfigure) (defBody s_isfigure) (defScope s_isfigure) .none kV3 dc3 pm3 an3 cd3 ct3), sl3⟩) (c3 : PySem.W.codeIn K cd3 "is_figure" = true) (k3 : PySem.W.keepIn K (.ref f3) = true)
    (a4 : PySem.W.nsIn K mainGlobals "read_deed" = some (some (.ref f4))) (l4 : K.lookup f4 = some ⟨oc4, od4, .func (PySem.W.fnOf "read_deed" "read_deed" (defArgs s_rdeed) (defBody s_rdeed) (defScope s_rdeed) .none kV4 dc4 pm4 an4 cd4 ct4), sl4⟩) (c4 : PySem.W.codeIn K cd4 "read_deed" = true) (k4 : PySem.W.keepIn K (.ref f4) = true)
    (a5 : PySem.W.nsIn K mainGlobals "read_words" = some (some (.ref f5))) (l5 : K.lookup f5 = some ⟨oc5, od5, .func (PySem.W.fnOf "read_words" "read_words" (defArgs s_rwords) (defBody s_rwords) (defScope s_rwords) .none kV5 dc5 pm5 an5 cd5 ct5), sl5⟩) (c5 : PySem.W.codeIn K cd5 "read_words" = true) (k5 : PySem.W.keepIn K (.ref f5) = true)
    (a6 : PySem.W.nsIn K mainGlobals "read_word" = some (some (.ref f6))) (l6 : K.lookup f6 = some ⟨oc6, od6, .func (PySem.W.fnOf "read_word" "read_word" (defArgs s_rword) (defBody s_rword) (defScope s_rword) .none kV6 dc6 pm6 an6 cd6 ct6), sl6⟩) (c6 : PySem.W.codeIn K cd6 "read_word" = true) (k6 : PySem.W.keepIn K (.ref f6) = true)
    (a7 : PySem.W.nsIn K mainGlobals "is_number" = some (some (.ref f7))) (l7 : K.lookup f7 = some ⟨oc7, od7, .func (PySem.W.fnOf "is_number" "is_number" (defArgs s_isnumber) (defBody s_isnumber) (defScope s_isnumber) .none kV7 dc7 pm7 an7 cd7 ct7), sl7⟩) (c7 : PySem.W.codeIn K cd7 "is_number" = true) (k7 : PySem.W.keepIn K (.ref f7) = true)
    (a8 : PySem.W.nsIn K mainGlobals "_law_cell" = some (some (.ref f8))) (l8 : K.lookup f8 = some ⟨oc8, od8, .func (PySem.W.fnOf "_law_cell" "_law_cell" (defArgs s_cell) (defBody s_cell) (defScope s_cell) .none kV8 dc8 pm8 an8 cd8 ct8), sl8⟩) (c8 : PySem.W.codeIn K cd8 "_law_cell" = true) (k8 : PySem.W.keepIn K (.ref f8) = true)
    (a9 : PySem.W.nsIn K mainGlobals "_law_draws" = some (some (.ref f9))) (l9 : K.lookup f9 = some ⟨oc9, od9, .func (PySem.W.fnOf "_law_draws" "_law_draws" (defArgs s_draws) (defBody s_draws) (defScope s_draws) .none kV9 dc9 pm9 an9 cd9 ct9), sl9⟩) (c9 : PySem.W.codeIn K cd9 "_law_draws" = true) (k9 : PySem.W.keepIn K (.ref f9) = true)
    (a10 : PySem.W.nsIn K mainGlobals "_law_same" = some (some (.ref f10))) (l10 : K.lookup f10 = some ⟨oc10, od10, .func (PySem.W.fnOf "_law_same" "_law_same" (defArgs s_same) (defBody s_same) (defScope s_same) .none kV10 dc10 pm10 an10 cd10 ct10), sl10⟩) (c10 : PySem.W.codeIn K cd10 "_law_same" = true) (k10 : PySem.W.keepIn K (.ref f10) = true)
    (a11 : PySem.W.nsIn K mainGlobals "_law_any_name" = some (some (.ref f11))) (l11 : K.lookup f11 = some ⟨oc11, od11, .func (PySem.W.fnOf "_law_any_name" "_law_any_name" (defArgs s_anyname) (defBody s_anyname) (defScope s_anyname) .none kV11 dc11 pm11 an11 cd11 ct11), sl11⟩) (c11 : PySem.W.codeIn K cd11 "_law_any_name" = true) (k11 : PySem.W.keepIn K (.ref f11) = true)
    (a12 : PySem.W.nsIn K mainGlobals "_law_bits" = some (some (.ref f12))) (l12 : K.lookup f12 = some ⟨oc12, od12, .func (PySem.W.fnOf "_law_bits" "_law_bits" (defArgs s_bits) (defBody s_bits) (defScope s_bits) .none kV12 dc12 pm12 an12 cd12 ct12), sl12⟩) (c12 : PySem.W.codeIn K cd12 "_law_bits" = true) (k12 : PySem.W.keepIn K (.ref f12) = true)
    (a13 : PySem.W.nsIn K mainGlobals "_law_any_deed" = some (some (.ref f13))) (l13 : K.lookup f13 = some ⟨oc13, od13, .func (PySem.W.fnOf "_law_any_deed" "_law_any_deed" (defArgs s_anydeed) (defBody s_anydeed) (defScope s_anydeed) .none kV13 dc13 pm13 an13 cd13 ct13), sl13⟩) (c13 : PySem.W.codeIn K cd13 "_law_any_deed" = true) (k13 : PySem.W.keepIn K (.ref f13) = true)
    (a14 : PySem.W.nsIn K mainGlobals "_law_number" = some (some (.ref f14))) (l14 : K.lookup f14 = some ⟨oc14, od14, .func (PySem.W.fnOf "_law_number" "_law_number" (defArgs s_lnum) (defBody s_lnum) (defScope s_lnum) .none kV14 dc14 pm14 an14 cd14 ct14), sl14⟩) (c14 : PySem.W.codeIn K cd14 "_law_number" = true) (k14 : PySem.W.keepIn K (.ref f14) = true)
    (a15 : PySem.W.nsIn K mainGlobals "_law_named" = some (some (.ref f15))) (l15 : K.lookup f15 = some ⟨oc15, od15, .func (PySem.W.fnOf "_law_named" "_law_named" (defArgs s_lname) (defBody s_lname) (defScope s_lname) .none kV15 dc15 pm15 an15 cd15 ct15), sl15⟩) (c15 : PySem.W.codeIn K cd15 "_law_named" = true) (k15 : PySem.W.keepIn K (.ref f15) = true)
    (a16 : PySem.W.nsIn K mainGlobals "_law_reads" = some (some (.ref f16))) (l16 : K.lookup f16 = some ⟨oc16, od16, .func (PySem.W.fnOf "_law_reads" "_law_reads" (defArgs s_lreads) (defBody s_lreads) (defScope s_lreads) .none kV16 dc16 pm16 an16 cd16 ct16), sl16⟩) (c16 : PySem.W.codeIn K cd16 "_law_reads" = true) (k16 : PySem.W.keepIn K (.ref f16) = true)
    (a17 : PySem.W.nsIn K mainGlobals "_law_text" = some (some (.ref f17))) (l17 : K.lookup f17 = some ⟨oc17, od17, .func (PySem.W.fnOf "_law_text" "_law_text" (defArgs s_ltext) (defBody s_ltext) (defScope s_ltext) .none kV17 dc17 pm17 an17 cd17 ct17), sl17⟩) (c17 : PySem.W.codeIn K cd17 "_law_text" = true) (k17 : PySem.W.keepIn K (.ref f17) = true)
    (a18 : PySem.W.nsIn K mainGlobals "_law_word" = some (some (.ref f18))) (l18 : K.lookup f18 = some ⟨oc18, od18, .func (PySem.W.fnOf "_law_word" "_law_word" (defArgs s_word) (defBody s_word) (defScope s_word) .none kV18 dc18 pm18 an18 cd18 ct18), sl18⟩) (c18 : PySem.W.codeIn K cd18 "_law_word" = true) (k18 : PySem.W.keepIn K (.ref f18) = true)
    (a19 : PySem.W.nsIn K mainGlobals "_law_bent" = some (some (.ref f19))) (l19 : K.lookup f19 = some ⟨oc19, od19, .func (PySem.W.fnOf "_law_bent" "_law_bent" (defArgs s_bent) (defBody s_bent) (defScope s_bent) .none kV19 dc19 pm19 an19 cd19 ct19), sl19⟩) (c19 : PySem.W.codeIn K cd19 "_law_bent" = true) (k19 : PySem.W.keepIn K (.ref f19) = true)
    (a20 : PySem.W.nsIn K mainGlobals "_law_spoilt" = some (some (.ref f20))) (l20 : K.lookup f20 = some ⟨oc20, od20, .func (PySem.W.fnOf "_law_spoilt" "_law_spoilt" (defArgs s_spoilt) (defBody s_spoilt) (defScope s_spoilt) .none kV20 dc20 pm20 an20 cd20 ct20), sl20⟩) (c20 : PySem.W.codeIn K cd20 "_law_spoilt" = true) (k20 : PySem.W.keepIn K (.ref f20) = true)
    (a21 : PySem.W.nsIn K mainGlobals "law" = some (some (.ref f21))) (l21 : K.lookup f21 = some ⟨oc21, od21, .func (PySem.W.fnOf "law" "law" (defArgs s_law) (defBody s_law) (defScope s_law) .none kV21 dc21 pm21 an21 cd21 ct21), sl21⟩) (c21 : PySem.W.codeIn K cd21 "law" = true) (k21 : PySem.W.keepIn K (.ref f21) = true)
    {XW iW NW : Addr} {nmW qnW : Str} {bsW bmW sbW : List Value} {snW : List Str} {abW : Bool} {coW : Option Bool} {ddW : Option Addr} {x0W x1W x2W x3W x5W : Option Value} {oiW kiW diW piW ciW tiW : Value} {ojW aiW : Option Addr} {siW : Array (Option Value)}
    (mW : PySem.W.nsIn K mainGlobals "WapentakeError" = some (some (.ref XW))) (oW : K.lookup XW = some (excClassObj nmW qnW XW NW bsW bmW true snW sbW abW coW ddW x0W x1W x2W x3W x5W "ValueError.__new__"))
    (vW : XBases bmW) (saW : PySem.W.findIn K (.ref XW) "__setattr__" = some (some (.builtin "object.__setattr__"))) (gaW : PySem.W.findIn K (.ref XW) "__getattribute__" = some (some (.builtin "BaseException.__getattribute__"))) (gnW : PySem.W.findIn K (.ref XW) "__getattr__" = some none) (nwW : PySem.W.findIn K (.ref XW) "word" = some none)
    (inW : PySem.W.findIn K (.ref XW) "__init__" = some (some (.ref iW))) (ifW : PySem.W.isFn K (.ref iW) = true) (kpW : PySem.W.keepIn K (.ref XW) = true) (liW : K.lookup iW = some ⟨oiW, ojW, .func (PySem.W.fnOf "__init__" "WapentakeError.__init__" (defArgs s_winit) (defBody s_winit) (defScope s_winit) .none kiW diW piW aiW ciW tiW), siW⟩) (cdW : PySem.W.codeIn K ciW "WapentakeError.__init__" = true) (keW : PySem.W.keepIn K (.ref iW) = true)
    {XC iC NC : Addr} {nmC qnC : Str} {bsC bmC sbC : List Value} {snC : List Str} {abC : Bool} {coC : Option Bool} {ddC : Option Addr} {x0C x1C x2C x3C x5C : Option Value} {oiC kiC diC piC ciC tiC : Value} {ojC aiC : Option Addr} {siC : Array (Option Value)}
    (mC : PySem.W.nsIn K mainGlobals "BadText" = some (some (.ref XC))) (oC : K.lookup XC = some (excClassObj nmC qnC XC NC bsC bmC true snC sbC abC coC ddC x0C x1C x2C x3C x5C "ValueError.__new__"))
    (vC : XBases bmC) (saC : PySem.W.findIn K (.ref XC) "__setattr__" = some (some (.builtin "object.__setattr__"))) (gaC : PySem.W.findIn K (.ref XC) "__getattribute__" = some (some (.builtin "BaseException.__getattribute__"))) (gnC : PySem.W.findIn K (.ref XC) "__getattr__" = some none) (nwC : PySem.W.findIn K (.ref XC) "word" = some none)
    (inC : PySem.W.findIn K (.ref XC) "__init__" = some (some (.ref iC))) (ifC : PySem.W.isFn K (.ref iC) = true) (kpC : PySem.W.keepIn K (.ref XC) = true) (liC : K.lookup iC = some ⟨oiC, ojC, .func (PySem.W.fnOf "__init__" "BadText.__init__" (defArgs s_cinit) (defBody s_cinit) (defScope s_cinit) .none kiC diC piC aiC ciC tiC), siC⟩) (cdC : PySem.W.codeIn K ciC "BadText.__init__" = true) (keC : PySem.W.keepIn K (.ref iC) = true)
    (uC : (Value.ref XC :: bmC).contains (.ref XW) = true)
    (wg : PySem.W.specialIn K (.ref XW) "__getattribute__" = some (some (.builtin "type.__getattribute__"))) (wr : PySem.W.readsIn K XW (.type "type") = true) (wf : PySem.W.findCls K (.ref XW) (.type "type") "__init__" = some (.val (.ref iW)))
    (gv : PySem.W.nsIn K mainGlobals "ValueError" = some none)
    {tL tG : Tok} {dF da0 da1 da2 da3 da4 da5 da6 : Addr} {nD dn0 dn1 dn2 dn3 dn4 dn5 dn6 : Nat} {do0 do1 do2 do3 do4 do5 do6 : Option Addr} {ds0 ds1 ds2 ds3 ds4 ds5 ds6 : Array (Option Value)} {du0 du1 du2 du3 du4 du5 du6 dv0 dv1 dv2 dv3 dv4 dv5 dv6 dv7 dv8 dv9 dv10 dv11 dv12 dv13 dv14 : Tok} (gL : PySem.W.nsIn K mainGlobals "LONGEST_NAME" = some (some (.int 12 tL))) (gG : PySem.W.nsIn K mainGlobals "MOST_FIGURES" = some (some (.int 9 tG))) (gD : PySem.W.nsIn K mainGlobals "DEED_FORMS" = some (some (.ref dF)))
    (gO : K.lookup dF = some { cls := .type "dict", data := .dict #[{ hash := PyData.keyHash w.params "come", key := .str "come" du0, val := .ref da0 }, { hash := PyData.keyHash w.params "leave", key := .str "leave" du1, val := .ref da1 }, { hash := PyData.keyHash w.params "turn", key := .str "turn" du2, val := .ref da2 }, { hash := PyData.keyHash w.params "swear", key := .str "swear" du3, val := .ref da3 }, { hash := PyData.keyHash w.params "recant", key := .str "recant" du4, val := .ref da4 }, { hash := PyData.keyHash w.params "enter", key := .str "enter" du5, val := .ref da5 }, { hash := PyData.keyHash w.params "strike", key := .str "strike" du6, val := .ref da6 }] nD }) (gM : (dF == sysModules) = false)
    (gt0 : K.lookup da0 = some ⟨.type "tuple", do0, .seq #[.str "name" dv0, .str "name" dv1] dn0, ds0⟩)
    (gt1 : K.lookup da1 = some ⟨.type "tuple", do1, .seq #[.str "name" dv2] dn1, ds1⟩)
    (gt2 : K.lookup da2 = some ⟨.type "tuple", do2, .seq #[.str "name" dv3, .str "number" dv4, .str "name" dv5] dn2, ds2⟩)
    (gt3 : K.lookup da3 = some ⟨.type "tuple", do3, .seq #[.str "name" dv6, .str "number" dv7, .str "name" dv8, .str "number" dv9, .str "name" dv10] dn3, ds3⟩)
    (gt4 : K.lookup da4 = some ⟨.type "tuple", do4, .seq #[.str "name" dv11, .str "number" dv12] dn4, ds4⟩)
    (gt5 : K.lookup da5 = some ⟨.type "tuple", do5, .seq #[.str "name" dv13] dn5, ds5⟩)
    (gt6 : K.lookup da6 = some ⟨.type "tuple", do6, .seq #[.str "number" dv14] dn6, ds6⟩)
    (z0 : PySem.W.nsIn K mainGlobals "len" = some none) (z1 : PySem.W.nsIn K mainGlobals "range" = some none) (z2 : PySem.W.nsIn K mainGlobals "all" = some none) (z3 : PySem.W.nsIn K mainGlobals "zip" = some none) (z4 : PySem.W.nsIn K mainGlobals "abs" = some none) (z5 : PySem.W.nsIn K mainGlobals "int" = some none) (z6 : PySem.W.nsIn K mainGlobals "str" = some none) (z7 : PySem.W.nsIn K mainGlobals "bool" = some none) (z8 : PySem.W.nsIn K mainGlobals "list" = some none) (z9 : PySem.W.nsIn K mainGlobals "tuple" = some none) (z10 : PySem.W.nsIn K mainGlobals "isinstance" = some none) (z11 : PySem.W.nsIn K mainGlobals "max" = some none) :
    ∃ fd : FuncData, (∀ (s : Shared) (v : Value), BindsTo s fd ⟨[v], []⟩ [("_law_script", v)]) ∧ fd.code = .ref cc ∧ ∀ base : Heap, K.In base → base.Ns mainGlobals mg → BMain mg base → FnOk l.prog w K mg base (CXE l.prog w) 9 fa fd ["_law_script"] (spLaw K Pt) := by
  have e := hfa.symm.trans (PySem.W.mg_of X G aL)
  cases e
  have B : Bt mg := ⟨PySem.W.mg_none_of X G z0, PySem.W.mg_none_of X G z1, PySem.W.mg_none_of X G z2, PySem.W.mg_none_of X G z3, PySem.W.mg_none_of X G z4, PySem.W.mg_none_of X G z5, PySem.W.mg_none_of X G z6, PySem.W.mg_none_of X G z7, PySem.W.mg_none_of X G z8, PySem.W.mg_none_of X G z9, PySem.W.mg_none_of X G z10⟩
  have M : Gm l.prog w K mg := ⟨PySem.W.mg_none_of X G z11, ⟨_, PySem.W.mg_of X G gL⟩, ⟨_, PySem.W.mg_of X G gG⟩, forms_mk (PySem.W.mg_of X G gD) gM gO gt0 gt1 gt2 gt3 gt4 gt5 gt6⟩
  have D1 := df_mk (st := s_isname) (ps := ["name"]) X G a1 l1 c1 k1 fun _ _ _ _ _ _ us hl => match us, hl with | [_], _ => rfl
  have D2 := df_mk (st := s_isletter) (ps := ["sign"]) X G a2 l2 c2 k2 fun _ _ _ _ _ _ us hl => match us, hl with | [_], _ => rfl
  have D3 := df_mk (st := s_isfigure) (ps := ["sign"]) X G a3 l3 c3 k3 fun _ _ _ _ _ _ us hl => match us, hl with | [_], _ => rfl
  have D4 := df_mk (st := s_rdeed) (ps := ["text"]) X G a4 l4 c4 k4 fun _ _ _ _ _ _ us hl => match us, hl with | [_], _ => rfl
  have D5 := df_mk (st := s_rwords) (ps := ["words", "kinds"]) X G a5 l5 c5 k5 fun _ _ _ _ _ _ us hl => match us, hl with | [_, _], _ => rfl
  have D6 := df_mk (st := s_rword) (ps := ["word", "kind"]) X G a6 l6 c6 k6 fun _ _ _ _ _ _ us hl => match us, hl with | [_, _], _ => rfl
  have D7 := df_mk (st := s_isnumber) (ps := ["word"]) X G a7 l7 c7 k7 fun _ _ _ _ _ _ us hl => match us, hl with | [_], _ => rfl
  have D8 := df_mk (st := s_cell) (ps := ["_law_script", "_law_k"]) X G a8 l8 c8 k8 fun _ _ _ _ _ _ us hl => match us, hl with | [_, _], _ => rfl
  have D9 := df_mk (st := s_draws) (ps := ["_law_cell_here", "_law_parts"]) X G a9 l9 c9 k9 fun _ _ _ _ _ _ us hl => match us, hl with | [_, _], _ => rfl
  have D10 := df_mk (st := s_same) (ps := ["_law_found", "_law_due"]) X G a10 l10 c10 k10 fun _ _ _ _ _ _ us hl => match us, hl with | [_, _], _ => rfl
  have D11 := df_mk (st := s_anyname) (ps := ["_law_cell_here", "_law_size"]) X G a11 l11 c11 k11 fun _ _ _ _ _ _ us hl => match us, hl with | [_, _], _ => rfl
  have D12 := df_mk (st := s_bits) (ps := ["_law_number_here", "_law_n"]) X G a12 l12 c12 k12 fun _ _ _ _ _ _ us hl => match us, hl with | [_, _], _ => rfl
  have D13 := df_mk (st := s_anydeed) (ps := ["_law_cell_here"]) X G a13 l13 c13 k13 fun _ _ _ _ _ _ us hl => match us, hl with | [_], _ => rfl
  have D14 := df_mk (st := s_lnum) (ps := ["_law_word_here"]) X G a14 l14 c14 k14 fun _ _ _ _ _ _ us hl => match us, hl with | [_], _ => rfl
  have D15 := df_mk (st := s_lname) (ps := ["_law_word_here"]) X G a15 l15 c15 k15 fun _ _ _ _ _ _ us hl => match us, hl with | [_], _ => rfl
  have D16 := df_mk (st := s_lreads) (ps := ["_law_text_here"]) X G a16 l16 c16 k16 fun _ _ _ _ _ _ us hl => match us, hl with | [_], _ => rfl
  have D17 := df_mk (st := s_ltext) (ps := ["_law_deed"]) X G a17 l17 c17 k17 fun _ _ _ _ _ _ us hl => match us, hl with | [_], _ => rfl
  have D18 := df_mk (st := s_word) (ps := ["_law_asked"]) X G a18 l18 c18 k18 fun _ _ _ _ _ _ us hl => match us, hl with | [_], _ => rfl
  have D19 := df_mk (st := s_bent) (ps := ["_law_words", "_law_drawn"]) X G a19 l19 c19 k19 fun _ _ _ _ _ _ us hl => match us, hl with | [_, _], _ => rfl
  have D20 := df_mk (st := s_spoilt) (ps := ["_law_text_here", "_law_drawn"]) X G a20 l20 c20 k20 fun _ _ _ _ _ _ us hl => match us, hl with | [_, _], _ => rfl
  have D21 := df_mk (st := s_law) (ps := ["_law_script"]) X G a21 l21 c21 k21 fun _ _ _ _ _ _ us hl => match us, hl with | [_], _ => rfl
  have FW := fun_mk (st := s_winit) liW cdW keW
  have bW := FW.binds (ps := ["self", "word"]) fun _ _ _ _ _ _ us hl => match us, hl with | [_, _], _ => rfl
  have kW : XKl K XW := ⟨⟨⟨_, _, _, _, _, _, _, _, _, _, _, _, _, _, _, oW, vW⟩⟩, saW, gaW, gnW, nwW⟩
  have FC := fun_mk (st := s_cinit) liC cdC keC
  have bC := FC.binds (ps := ["self"]) fun _ _ _ _ _ _ us hl => match us, hl with | [_], _ => rfl
  have kC : XKl K XC := ⟨⟨⟨_, _, _, _, _, _, _, _, _, _, _, _, _, _, _, oC, vC⟩⟩, saC, gaC, gnC, nwC⟩
  have XX : Xs K mg XW XC iW iC _ _ := ⟨PySem.W.mg_of X G mW, PySem.W.mg_of X G mC, PySem.W.mg_none_of X G gv, kW, kC, ⟨⟨_, _, _, _, _, _, _, _, _, _, _, _, _, _, _, oC, uC⟩⟩, ⟨wg, wr, wf, keW⟩, ⟨inC, ifC, kpC⟩, FW, FC, bW, bC⟩
  refine ⟨_, fun s v => BindsTo.of_eq (fd := PySem.W.fnOf "law" "law" (defArgs s_law) (defBody s_law) (defScope s_law) .none kVL dcL pmL anL (.ref cc) ctL) rfl, rfl, fun base KB _ BM => ?_⟩
  exact ok_law lL cL D8 D9 D10 D13 (ok_adeed D13 D9 D11 (ok_aname D11 D9 B) D12 B) D17 (ok_ltext D17 B) D19 (ok_bent D19 B) D20 (ok_spoilt D20 B) D16 (ok_lreads D16 D14 (ok_lnum D14 B) D15 (ok_lname D15 B) B) D4 (fun _ => ok_rdeed D4 D5 (ok_rwords D5 D6 (ok_rword D6 D7 (ok_number D7 D3 B M) D1 (ok_name D1 D2 D3 B M) B XX) B XX) M) D18 XX B M (PySem.W.codeHd_of_K KB hH) BM
theorem walk {l : PySem.W.OpenLaw} {q : Program} {loose : List Str} {XP : (Str → Option Value) → Heap → Prop} {YP : World → Heap → Prop} {d : DefRec} {K : Params → PySem.W.Frag} {cc Pt : Addr} (hn : l.most = some 63) (hdf : d.params.defaults = [])
    (hY : ∀ (w : World) (h : Heap), YP w h → (K w.params).In h) (hT : ∀ (w : World) (h : Heap), YP w h → h.get? Pt = some (PySem.W.tabObj #[])) (hC : ∀ w : World, PySem.W.codeHdIn (K w.params) cc Pt = true) (hK : ∀ w : World, (K w.params).lookup Pt = none)
    (F : ∀ (w : World) (mg : Str → Option Value) (fa : Addr) (h : Heap), (K w.params).In h → h.Ns mainGlobals mg → mg d.name = some (.ref fa) →
      ∃ fd : FuncData, (∀ (s : Shared) (u : Value), BindsTo s fd ⟨[u], []⟩ [("_law_script", u)]) ∧ fd.code = .ref cc ∧ ∀ base : Heap, (K w.params).In base → base.Ns mainGlobals mg → BMain mg base → FnOk l.prog w (K w.params) mg base (CXE l.prog w) 9 fa fd ["_law_script"] (spLaw (K w.params) Pt)) :
    PySem.W.WalkO q loose XP YP l.row.toRowW d [] (fun f vs => PySem.call f vs) :=
  L2.walk_ofT (n := 63) (k := 9) (x := "_law_script") (tabs := [(cc, Pt)]) (CX := fun w => CXE l.prog w) (sp := fun w => spLaw (K w.params) Pt) hn (by decide) hdf ⟨rfl, by decide, by decide⟩ hY
    (fun w h Y q hq => by obtain rfl := List.mem_singleton.mp hq; exact hT w h Y) (fun w h KX q hq => by obtain rfl := List.mem_singleton.mp hq; exact PySem.W.codeHd_of_K KX (hC w)) (fun w q hq => by obtain rfl := List.mem_singleton.mp hq; exact hK w)
    (fun w mg fa h h1 h2 h3 => let ⟨fd, e1, _, e2⟩ := F w mg fa h h1 h2 h3; ⟨fd, e1, e2⟩) (fun _ _ a ns hl hS hTs => ⟨a, ns, rfl, hS, hl, hTs (cc, Pt) (List.mem_singleton.mpr rfl), fun _ => rfl⟩) fun _ _ _ _ _ z => by
    obtain ⟨_, _, _, _, _, _, _, _, _, _, _, _, _, _, _, q⟩ := z
    exact q.elim
end K44
set_option Elab.async false
set_option linter.all false
open PySem PySem.W PyProof.Rows
def PySem.W.Fast.tw13636044536546896029 : Unit := ()
def PySem.W.Fast.tw10674133543717889794 : Unit := ()
def PySem.W.Fast.tw761032968864986668 : Unit := ()
def PySem.W.Fast.tw7578289426878781624 : Unit := ()
def PySem.W.Fast.tw15871295768396441756 : Unit := ()
def PySem.W.Fast.tw3783987698795192995 : Unit := ()
def PySem.W.Fast.tw8927154950761334722 : Unit := ()
def PySem.W.Fast.tw1949512180072150904 : Unit := ()
def PySem.W.Fast.tw16356731647914375847 : Unit := ()
def PySem.W.Fast.tw24657309094715363 : Unit := ()
def PySem.W.Fast.tw4097800007331155138 : Unit := ()
def PySem.W.Fast.tw16230729304742354728 : Unit := ()
def PySem.W.Fast.tw17947862452480199852 : Unit := ()
def PySem.W.Fast.tw11001724849375332198 : Unit := ()
def PySem.W.Fast.tw15563610796030819722 : Unit := ()
def PySem.W.Fast.tw10548624336384055475 : Unit := ()
def PySem.W.Fast.tw18390005055930114839 : Unit := ()
set_option maxRecDepth 100000 in
set_option maxHeartbeats 0 in
theorem PySem.Challenge.cw_wapentake_k44_texts_of_no_deed_holds : PySem.Challenge.rw_wapentake_k44_texts_of_no_deed.Holds := by
  w_on; o_law; k_head; (case hw => w_witness2)
  k_fill
  refine' K44.walk (l := PySem.Challenge.rw_wapentake_k44_texts_of_no_deed) (cc := _) (Pt := _) rfl rfl (fun w h Y => PySem.W.km_in_of Y) ?hT ?hC0 ?hK ?F
  case F =>
    intro w mg fa h KX G hmg
    refine' K44.all_mk KX G hmg ?aL ?lL ?cL ?lZ ?hZ ?hH ?a1 ?l1 ?c1 ?k1 ?a2 ?l2 ?c2 ?k2 ?a3 ?l3 ?c3 ?k3 ?a4 ?l4 ?c4 ?k4 ?a5 ?l5 ?c5 ?k5 ?a6 ?l6 ?c6 ?k6 ?a7 ?l7 ?c7 ?k7 ?a8 ?l8 ?c8 ?k8 ?a9 ?l9 ?c9 ?k9 ?a10 ?l10 ?c10 ?k10 ?a11 ?l11 ?c11 ?k11 ?a12 ?l12 ?c12 ?k12 ?a13 ?l13 ?c13 ?k13 ?a14 ?l14 ?c14 ?k14 ?a15 ?l15 ?c15 ?k15 ?a16 ?l16 ?c16 ?k16 ?a17 ?l17 ?c17 ?k17 ?a18 ?l18 ?c18 ?k18 ?a19 ?l19 ?c19 ?k19 ?a20 ?l20 ?c20 ?k20 ?a21 ?l21 ?c21 ?k21 ?mW ?oW ?vW ?saW ?gaW ?gnW ?nwW ?inW ?ifW ?kpW ?liW ?cdW ?keW ?mC ?oC ?vC ?saC ?gaC ?gnC ?nwC ?inC ?ifC ?kpC ?liC ?cdC ?keC ?uC ?wg ?wr ?wf ?gv ?gL ?gG ?gD ?gO ?gM ?gt0 ?gt1 ?gt2 ?gt3 ?gt4 ?gt5 ?gt6 ?z0 ?z1 ?z2 ?z3 ?z4 ?z5 ?z6 ?z7 ?z8 ?z9 ?z10 ?z11
    (case aL => k_is)
    (case lL => k_is)
    (case cL => k_is)
    (case lZ => k_is)
    (case hZ => rfl)
    (case hH => kernel_rfl)
    (case a1 => k_is)
    (case l1 => k_is)
    (case c1 => k_is)
    (case k1 => k_is)
    (case a2 => k_is)
    (case l2 => k_is)
    (case c2 => k_is)
    (case k2 => k_is)
    (case a3 => k_is)
    (case l3 => k_is)
    (case c3 => k_is)
    (case k3 => k_is)
    (case a4 => k_is)
    (case l4 => k_is)
    (case c4 => k_is)
    (case k4 => k_is)
    (case a5 => k_is)
    (case l5 => k_is)
    (case c5 => k_is)
    (case k5 => k_is)
    (case a6 => k_is)
    (case l6 => k_is)
    (case c6 => k_is)
    (case k6 => k_is)
    (case a7 => k_is)
    (case l7 => k_is)
    (case c7 => k_is)
    (case k7 => k_is)
    (case a8 => k_is)
    (case l8 => k_is)
    (case c8 => k_is)
    (case k8 => k_is)
    (case a9 => k_is)
    (case l9 => k_is)
    (case c9 => k_is)
    (case k9 => k_is)
    (case a10 => k_is)
    (case l10 => k_is)
    (case c10 => k_is)
    (case k10 => k_is)
    (case a11 => k_is)
    (case l11 => k_is)
    (case c11 => k_is)
    (case k11 => k_is)
    (case a12 => k_is)
    (case l12 => k_is)
    (case c12 => k_is)
    (case k12 => k_is)
    (case a13 => k_is)
    (case l13 => k_is)
    (case c13 => k_is)
    (case k13 => k_is)
    (case a14 => k_is)
    (case l14 => k_is)
    (case c14 => k_is)
    (case k14 => k_is)
    (case a15 => k_is)
    (case l15 => k_is)
    (case c15 => k_is)
    (case k15 => k_is)
    (case a16 => k_is)
    (case l16 => k_is)
    (case c16 => k_is)
    (case k16 => k_is)
    (case a17 => k_is)
    (case l17 => k_is)
    (case c17 => k_is)
    (case k17 => k_is)
    (case a18 => k_is)
    (case l18 => k_is)
    (case c18 => k_is)
    (case k18 => k_is)
    (case a19 => k_is)
    (case l19 => k_is)
    (case c19 => k_is)
    (case k19 => k_is)
    (case a20 => k_is)
    (case l20 => k_is)
    (case c20 => k_is)
    (case k20 => k_is)
    (case a21 => k_is)
    (case l21 => k_is)
    (case c21 => k_is)
    (case k21 => k_is)
    (case mW => k_is)
    (case oW => k_is)
    (case vW => exact ⟨by decide +kernel, by decide +kernel, by decide +kernel, by decide +kernel, by decide +kernel, fun _ => rfl⟩)
    (case saW => k_is)
    (case gaW => k_is)
    (case gnW => k_is)
    (case nwW => k_is)
    (case inW => k_is)
    (case ifW => k_is)
    (case kpW => k_is)
    (case liW => k_is)
    (case cdW => k_is)
    (case keW => k_is)
    (case mC => k_is)
    (case oC => k_is)
    (case vC => exact ⟨by decide +kernel, by decide +kernel, by decide +kernel, by decide +kernel, by decide +kernel, fun _ => rfl⟩)
    (case saC => k_is)
    (case gaC => k_is)
    (case gnC => k_is)
    (case nwC => k_is)
    (case inC => k_is)
    (case ifC => k_is)
    (case kpC => k_is)
    (case liC => k_is)
    (case cdC => k_is)
    (case keC => k_is)
    (case uC => decide +kernel)
    (case wg => k_is)
    (case wr => k_is)
    (case wf => k_is)
    (case gv => k_is)
    (case gL => k_is)
    (case gG => k_is)
    (case gD => k_is)
    (case gO => k_is)
    (case gM => first | rfl | decide)
    (case gt0 => k_is)
    (case gt1 => k_is)
    (case gt2 => k_is)
    (case gt3 => k_is)
    (case gt4 => k_is)
    (case gt5 => k_is)
    (case gt6 => k_is)
    (case z0 => k_is)
    (case z1 => k_is)
    (case z2 => k_is)
    (case z3 => k_is)
    (case z4 => k_is)
    (case z5 => k_is)
    (case z6 => k_is)
    (case z7 => k_is)
    (case z8 => k_is)
    (case z9 => k_is)
    (case z10 => k_is)
    (case z11 => k_is)
  case hT => exact fun w h Y => PySem.W.km_tabs_of Y _ (by decide)
  case hC0 => intro w; kernel_rfl
  case hK => intro w; kernel_rfl
#print axioms PySem.Challenge.cw_wapentake_k44_texts_of_no_deed_holds
