import PyProof.Rows.All
import Wide.All
import OpenK.AllK
import Wide.FinOn
import Lean
import PyProof.EqAt
import PyProof.EqKinds
import PyProof.TupleCall
import KE.KLam
import KE.KNestM
import PyProof.StrBlockH
import PyProof.StrLawsIn
import PyProof.FString5
import PySem.Challenge.RW_wapentake_k01_answers_rows_and_names
set_option Elab.async false
set_option linter.all false
set_option maxRecDepth 100000
namespace L2
open PySem PySem.Spec PyProof.Rows
abbrev Key := Sum Int Str
def keyIs : Key → Value → Bool
  | .inl k, v => Value.isInt k v
  | .inr x, v => Value.isStrOf x v
def keyH (w : World) : Key → Int
  | .inl k => hashInt k
  | .inr x => hashStr w x
theorem keyIs_shape : ∀ {k : Key} {v : Value}, keyIs k v = true → (∃ i t, k = Sum.inl i ∧ v = Value.int i t) ∨ (∃ x t, k = Sum.inr x ∧ v = Value.str x t)
  | .inl i, v, h => by
    obtain ⟨t, e⟩ := Value.isInt_shape (k := i) (v := v) h
    exact .inl ⟨i, t, rfl, e⟩
  | .inr x, v, h => by
    obtain ⟨t, e⟩ := Value.isStrOf_shape (x := x) (v := v) h
    exact .inr ⟨x, t, rfl, e⟩
theorem keyIs_int (i : Int) (t : Tok) : keyIs (.inl i) (.int i t) = true := by simp [keyIs, Value.isInt]
theorem keyIs_str (x : Str) (t : Tok) : keyIs (.inr x) (.str x t) = true := by simp [keyIs, Value.isStrOf]
theorem key_ll (a b : Int) : decide ((Sum.inl a : Key) = Sum.inl b) = (a == b) := by
  by_cases e : a = b
  · subst e; simp
  · have h : ¬ (Sum.inl a : Key) = Sum.inl b := fun q => e (Sum.inl.inj q)
    rw [decide_eq_false h]
    exact (beq_eq_false_iff_ne.mpr e).symm
theorem key_rr (a b : Str) : decide ((Sum.inr a : Key) = Sum.inr b) = decide (a = b) := by
  by_cases e : a = b
  · subst e; simp
  · have h : ¬ (Sum.inr a : Key) = Sum.inr b := fun q => e (Sum.inr.inj q)
    rw [decide_eq_false h, decide_eq_false e]
theorem key_lr (a : Int) (b : Str) : decide ((Sum.inl a : Key) = Sum.inr b) = false := decide_eq_false (fun q => nomatch q)
theorem key_rl (a : Str) (b : Int) : decide ((Sum.inr a : Key) = Sum.inl b) = false := decide_eq_false (fun q => nomatch q)
def mixKind (prog : Program) (w : World) : PySem.KeyKind prog w Key where
  is := keyIs
  hash := keyH w
  inj := fun v a b ha hb => by
    rcases keyIs_shape ha with ⟨i, t, rfl, rfl⟩ | ⟨x, t, rfl, rfl⟩
    · rcases keyIs_shape hb with ⟨j, u, rfl, e⟩ | ⟨y, u, rfl, e⟩
      · injection e with e1 _; rw [e1]
      · exact nomatch e
    · rcases keyIs_shape hb with ⟨j, u, rfl, e⟩ | ⟨y, u, rfl, e⟩
      · exact nomatch e
      · injection e with e1 _; rw [e1]
  byValue := fun k v h => by
    rcases keyIs_shape h with ⟨i, t, rfl, rfl⟩ | ⟨x, t, rfl, rfl⟩ <;> rfl
  pyHash := fun hv h => by
    rcases keyIs_shape hv with ⟨i, t, rfl, rfl⟩ | ⟨x, t, rfl, rfl⟩
    · exact wpAny_pyHash_int h
    · exact wpAny_pyHash_str h
  eqBool := fun hu hv h => by
    rcases keyIs_shape hu with ⟨i, t, rfl, rfl⟩ | ⟨x, t, rfl, rfl⟩
    · rcases keyIs_shape hv with ⟨j, u, rfl, rfl⟩ | ⟨y, u, rfl, rfl⟩
      · rw [key_ll] at h; exact wpAny_eqBool_int h
      · rw [key_lr] at h; exact SeqAt.EqAt.int_str i t y u _ _ _ _ h
    · rcases keyIs_shape hv with ⟨j, u, rfl, rfl⟩ | ⟨y, u, rfl, rfl⟩
      · rw [key_rl] at h; exact SeqAt.EqAt.str_int x t j u _ _ _ _ h
      · rw [key_rr] at h; exact wpAny_eqBool_str h
  «strs» := fun k x t v h => by
    rcases keyIs_shape h with ⟨i, u, rfl, e⟩ | ⟨y, u, rfl, e⟩
    · exact nomatch e
    · injection e with e1 _
      subst e1
      cases v <;> rfl
theorem mixKind_int (prog : Program) (w : World) (i : Int) (t : Tok) : (mixKind prog w).is (.inl i) (.int i t) = true := keyIs_int i t
theorem mixKind_str (prog : Program) (w : World) (x : Str) (t : Tok) : (mixKind prog w).is (.inr x) (.str x t) = true := keyIs_str x t
end L2
namespace L2
open PySem PySem.Spec PyProof.Rows
inductive V where
  | non | bl (b : Bool) | int (i : Int) | str (x : Str) | byt (b : Array UInt8) | flt (b : UInt64) | ref (a : Addr) | ty (n : String)
  deriving DecidableEq
def RelV : V → Value → Prop
  | .non, u => u = Value.none
  | .bl b, u => u = Value.bool b
  | .int i, u => ∃ t, u = Value.int i t
  | .str x, u => ∃ t, u = Value.str x t
  | .byt b, u => ∃ t, u = Value.bytes b t
  | .flt b, u => ∃ t, u = Value.float b t
  | .ref a, u => u = Value.ref a
  | .ty n, u => u = Value.type n
abbrev Vals : List V → List Value → Prop := Paired RelV
theorem Vals.length {xs : List V} {us : List Value} (r : Vals xs us) : xs.length = us.length := Paired.length r
theorem Vals.get : ∀ {xs : List V} {us : List Value} {i : Nat} {x : V}, Vals xs us → xs[i]? = some x → ∃ u, us[i]? = some u ∧ RelV x u
  | _, _, _, _, .nil, e => by simp at e
  | _, _, 0, _, .cons r _, e => by simp at e; subst e; exact ⟨_, rfl, r⟩
  | _, _, i + 1, x, .cons _ t, e => by
    obtain ⟨u, h1, h2⟩ := Vals.get (i := i) (x := x) t (by simpa using e)
    exact ⟨u, by simpa using h1, h2⟩
theorem Vals.set {x : V} {u : Value} (r : RelV x u) : ∀ {xs : List V} {us : List Value} (i : Nat), Vals xs us → Vals (xs.set i x) (us.set i u)
  | _, _, _, .nil => .nil
  | _, _, 0, .cons _ t => .cons r t
  | _, _, i + 1, .cons q t => .cons q (Vals.set r i t)
theorem Vals.append : ∀ {xs ys : List V} {us ws : List Value}, Vals xs us → Vals ys ws → Vals (xs ++ ys) (us ++ ws)
  | _, _, _, _, .nil, s => s
  | _, _, _, _, .cons r t, s => .cons r (Vals.append t s)
theorem Vals.take : ∀ {xs : List V} {us : List Value} (n : Nat), Vals xs us → Vals (xs.take n) (us.take n)
  | _, _, 0, _ => .nil
  | _, _, _ + 1, .nil => .nil
  | _, _, n + 1, .cons r t => .cons r (Vals.take n t)
theorem Vals.drop : ∀ {xs : List V} {us : List Value} (n : Nat), Vals xs us → Vals (xs.drop n) (us.drop n)
  | _, _, 0, r => r
  | _, _, _ + 1, .nil => .nil
  | _, _, n + 1, .cons _ t => Vals.drop n t
def RelO : Option V → Option Value → Prop
  | some v, some u => RelV v u
  | none, none => True
  | _, _ => False
def KV {κ : Type} : List (κ × V) → List (κ × Value) → Prop := Paired fun (p : κ × V) (q : κ × Value) => p.1 = q.1 ∧ RelV p.2 q.2
def kV : Key → V
  | .inl i => .int i
  | .inr x => .str x
inductive HO where
  /-- a list -/
  | lst (xs : List V)
  /-- a tuple (never changes) -/
  | tup (xs : List V)
  /-- a dict whose keys are ints and texts; one whose keys are tuples of ints and texts (the empty one is both) -/
  | dK (kvs : List (Key × V)) | dT (kvs : List (List Key × V))
  /-- a set of ints: its members, its size -/
  | set (S : Int → Bool) (n : Nat)
  /-- an instance of the class at C, its dict at dx, its attributes -/
  | ins (C dx : Addr) (fs : List (Str × V))
  /-- the dict of the instance at x -/
  | own (x : Addr)
  /-- the dict of an exception -/
  | xd (fs : List (Str × V))
  /-- a bound method, f of x -/
  | met (f x : Addr)
  /-- a range object lo, lo + 1, .. below hi -/
  | rng (lo hi : Int)
  /-- a thing that is known to the object (the script; a dict while a loop walks it): read, never written while it is so -/
  | frz (o : Obj) (u : HO)
  /-- a code object's table -/
  | tbl (ps : Array Value)
  /-- any other thing, by what is true of its one object (a def of one's own: SetO a S n := HO.ext fun h => ..) -/
  | ext (φ : Heap → Prop)
abbrev Hp := Addr → Option HO
def upd (H : Hp) (a : Addr) (o : HO) : Hp := fun b => if b = a then some o else H b
theorem upd_same {H : Hp} {a : Addr} {o : HO} : upd H a o a = some o := by unfold upd; rw [if_pos rfl]
theorem upd_ne {H : Hp} {a b : Addr} {o : HO} (h : b ≠ a) : upd H a o b = H b := by unfold upd; rw [if_neg h]
theorem ne_of {H : Hp} {a b : Addr} {o u : HO} (h : H a = some o) (h' : H b = some u) (d : o ≠ u) : a ≠ b := by
  intro e; subst e; rw [h] at h'; exact d (Option.some.inj h')
theorem ne_of_none {H : Hp} {a b : Addr} {o : HO} (h : H a = some o) (h' : H b = none) : a ≠ b := by
  intro e; subst e; rw [h] at h'; cases h'
section
variable (P : Program) (w : World)
def ObjOk (H : Hp) (h : Heap) (a : Addr) : HO → Prop
  | .lst xs => xs.length ≤ sizeLine ∧ ∃ (its : List Value) (n : Nat), Vals xs its ∧ h.get? a = some { cls := .type "list", data := .seq its.toArray n }
  | .tup xs => xs.length ≤ sizeLine ∧ ∃ its : List Value, Vals xs its ∧ IsTup h a its.toArray
  | .dK kvs => kvs.length ≤ sizeLine ∧ (a == sysModules) = false ∧ ∃ vs, KV kvs vs ∧ h.DictOf (mixKind P w) a vs
  | .dT kvs => kvs.length ≤ sizeLine ∧ (a == sysModules) = false ∧ ∃ xs : List (List Key × Addr × Value),
      Paired (fun (p : List Key × V) (q : List Key × Addr × Value) => p.1 = q.1 ∧ H q.2.1 = some (.tup (p.1.map kV)) ∧ RelV p.2 q.2.2) kvs xs ∧
      ∃ o es ep, h.get? a = some o ∧ o.ExactDict ∧ o.data = .dict es ep ∧ es.toList = xs.map (entryOfKey (tupleKind (mixKind P w))) ∧ (xs.map (·.1)).Nodup
  | .set S n => h.SetOf (intKind P w) a S n
  | .ins C dx fs => H dx = some (.own a) ∧ fs.length ≤ 1000 ∧ dx ≠ a ∧ h.get? a = some (PySem.W.instObj C dx) ∧
      ∃ mA, h.Ns1 dx mA ∧ (∀ f, RelO (fs.lookup f) (mA f)) ∧ PySem.Within mA (fs.map (·.1))
  | .own _ => ∃ o, h.get? a = some o
  | .xd fs => ∃ mA, h.Ns1 a mA ∧ ∀ f, RelO (fs.lookup f) (mA f)
  | .rng lo hi => ∃ t u v, h.get? a = some { cls := .type "range", data := .fields #[.int lo t, .int hi u, .int 1 v] }
  | .frz o u => h.get? a = some o ∧ ObjOk H h a u
  | .tbl ps => h.get? a = some { cls := .none, data := .fields ps }
  | .met f x => h.get? a = some (PySem.W.methodObj (.ref f) (.ref x))
  | .ext φ => φ h ∧ (∃ o, h.get? a = some o) ∧ ∀ h1 h2 : Heap, φ h1 → (∀ o, h1.get? a = some o → h2.get? a = some o) → φ h2
def HOk (H : Hp) (h : Heap) : Prop := ∀ a o, H a = some o → ObjOk P w H h a o
end
section
variable {P : Program} {w : World} {H H' : Hp} {h h' : Heap} {a : Addr} {o : HO}
theorem ObjOk.lt (x : ObjOk P w H h a o) : a < h.objs.size := by
  cases o with
  | lst xs => obtain ⟨_, _, _, _, e⟩ := x; exact Heap.lt_size e
  | tup xs => obtain ⟨_, _, _, p⟩ := x; exact p.lt
  | dK kvs => obtain ⟨_, _, _, _, o, _, _, e, _⟩ := x; exact Heap.lt_size e
  | dT kvs => obtain ⟨_, _, _, _, o, _, _, e, _⟩ := x; exact Heap.lt_size e
  | set S n => obtain ⟨o, _, _, _, e, _⟩ := x; exact Heap.lt_size e
  | ins C dx fs => obtain ⟨_, _, _, e, _⟩ := x; exact Heap.lt_size e
  | own y => obtain ⟨_, e⟩ := x; exact Heap.lt_size e
  | xd fs => obtain ⟨_, ⟨_, _, _, e, _⟩, _⟩ := x; exact Heap.lt_size e
  | rng lo hi => obtain ⟨_, _, _, e⟩ := x; exact Heap.lt_size e
  | frz ob u => obtain ⟨e, _⟩ := x; exact Heap.lt_size e
  | tbl ps => exact Heap.lt_size (show h.get? a = some _ from x)
  | met f y => exact Heap.lt_size (show h.get? a = some _ from x)
  | ext φ => obtain ⟨_, ⟨_, e⟩, _⟩ := x; exact Heap.lt_size e
theorem Paired.mapP {α β : Type} {F G : α → β → Prop} : ∀ {l₁ : List α} {l₂ : List β}, Paired F l₁ l₂ → (∀ a b, F a b → G a b) → Paired G l₁ l₂
  | _, _, .nil, _ => .nil
  | _, _, .cons r t, f => .cons (f _ _ r) (Paired.mapP t f)
theorem ObjOk.stay (x : ObjOk P w H h a o) (k : ∀ b u, (b = a ∨ H b = some (.own a)) → h.get? b = some u → h'.get? b = some u)
    (ho : ∀ b, H b = some (.own a) → H' b = some (.own a)) (ht : ∀ b xs, H b = some (.tup xs) → H' b = some (.tup xs)) : ObjOk P w H' h' a o := by
  induction o with
  | lst xs => obtain ⟨z, its, n, r, e⟩ := x; exact ⟨z, its, n, r, k _ _ (.inl rfl) e⟩
  | tup xs => obtain ⟨z, its, r, ob, e, c⟩ := x; exact ⟨z, its, r, ob, k _ _ (.inl rfl) e, c⟩
  | dK kvs => obtain ⟨z, y, vs, r, ob, es, ep, e, c⟩ := x; exact ⟨z, y, vs, r, ob, es, ep, k _ _ (.inl rfl) e, c⟩
  | dT kvs =>
    obtain ⟨z, y, xs, r, ob, es, ep, e, c⟩ := x
    exact ⟨z, y, xs, Paired.mapP r fun p q z => ⟨z.1, ht _ _ z.2.1, z.2.2⟩, ob, es, ep, k _ _ (.inl rfl) e, c⟩
  | set S n => obtain ⟨ob, es, ep, t, e, c⟩ := x; exact ⟨ob, es, ep, t, k _ _ (.inl rfl) e, c⟩
  | ins C dx fs =>
    obtain ⟨d, z, ne, e, mA, ⟨od, es, ep, e2, c⟩, r⟩ := x
    exact ⟨ho _ d, z, ne, k _ _ (.inl rfl) e, mA, ⟨od, es, ep, k _ _ (.inr d) e2, c⟩, r⟩
  | own y => obtain ⟨ob, e⟩ := x; exact ⟨ob, k _ _ (.inl rfl) e⟩
  | xd fs => obtain ⟨mA, ⟨od, es, ep, e, c⟩, r⟩ := x; exact ⟨mA, ⟨od, es, ep, k _ _ (.inl rfl) e, c⟩, r⟩
  | rng lo hi => obtain ⟨t, u, v, e⟩ := x; exact ⟨t, u, v, k _ _ (.inl rfl) e⟩
  | frz ob u ih => obtain ⟨e, q⟩ := x; exact ⟨k _ _ (.inl rfl) e, ih q⟩
  | tbl ps =>
    have e : h.get? a = some { cls := .none, data := .fields ps } := x
    show h'.get? a = some { cls := .none, data := .fields ps }
    exact k a _ (.inl rfl) e
  | met f y =>
    have e : h.get? a = some (PySem.W.methodObj (.ref f) (.ref y)) := x
    show h'.get? a = some (PySem.W.methodObj (.ref f) (.ref y))
    exact k a _ (.inl rfl) e
  | ext φ => obtain ⟨p, ⟨o, e⟩, st⟩ := x; exact ⟨st _ _ p fun o q => k _ _ (.inl rfl) q, ⟨o, k _ _ (.inl rfl) e⟩, st⟩
theorem HOk.lt (x : HOk P w H h) (e : H a = some o) : a < h.objs.size := (x a o e).lt
theorem HOk.fresh (x : HOk P w H h) (e : h.objs.size ≤ a) : H a = none := by
  cases q : H a with
  | none => rfl
  | some u => exact absurd (Nat.lt_of_lt_of_le (x.lt q) e) (Nat.lt_irrefl _)
theorem HOk.kept (x : HOk P w H h) (k : ∀ b u, h.get? b = some u → h'.get? b = some u) : HOk P w H h' := fun a o e =>
  (x a o e).stay (fun b u _ q => k b u q) (fun _ q => q) fun _ _ q => q
theorem HOk.laid (x : HOk P w H h) (k : ∀ b u, h.get? b = some u → h'.get? b = some u) (hp : h.objs.size ≤ a) (new : ObjOk P w (upd H a o) h' a o) : HOk P w (upd H a o) h' := fun b u e => by
  have hn := x.fresh hp
  by_cases hb : b = a
  · subst hb; rw [upd_same] at e; cases e; exact new
  · rw [upd_ne hb] at e
    exact (x b u e).stay (fun c v _ q => k c v q) (fun c q => by rw [upd_ne (ne_of_none q hn)]; exact q) fun c xs q => by rw [upd_ne (ne_of_none q hn)]; exact q
end
def Rd (H : Hp) (a : Addr) (u : HO) : Prop := H a = some u ∨ ∃ o, H a = some (.frz o u)
theorem Rd.of {H : Hp} {a : Addr} {u : HO} (h : H a = some u) : Rd H a u := .inl h
theorem Rd.ok {P : Program} {w : World} {H : Hp} {h : Heap} {a : Addr} {u : HO} (r : Rd H a u) (x : HOk P w H h) : ObjOk P w H h a u := by
  rcases r with r | ⟨o, r⟩
  · exact x a u r
  · obtain ⟨_, q⟩ := x a _ r
    exact q
def Mut : Option HO → Prop
  | some (.lst _) => True
  | some (.dK _) => True
  | some (.dT _) => True
  | some (.set _ _) => True
  | some (.ins _ _ _) => True
  | some (.ext _) => True
  | _ => False
section
variable {P : Program} {w : World} {H : Hp} {h h' : Heap} {x e : Addr} {o' : HO}
theorem HOk.write (ok : HOk P w H h) (mu : Mut (H x)) (he : e = x ∨ H e = some (.own x)) (k : ∀ b u, b ≠ e → h.get? b = some u → h'.get? b = some u) (heo : ∃ u, h'.get? e = some u)
    (new : ObjOk P w (upd H x o') h' x o') : HOk P w (upd H x o') h' := fun b u q => by
  have nown : ∀ c y, H c = some (.own y) → c ≠ x := fun c y r z => by subst z; rw [r] at mu; exact mu
  have ntup : ∀ c xs, H c = some (.tup xs) → c ≠ x := fun c xs r z => by subst z; rw [r] at mu; exact mu
  by_cases hb : b = x
  · subst hb; rw [upd_same] at q; cases q; exact new
  · rw [upd_ne hb] at q
    by_cases hbe : b = e
    · have q' : H b = some (.own x) := by
        rcases he with z | z
        · exact absurd (hbe.trans z) hb
        · rw [hbe]; exact z
      rw [q] at q'; cases q'
      obtain ⟨v, hv⟩ := heo
      exact ⟨v, by rw [hbe]; exact hv⟩
    · refine (ok b u q).stay (fun c v hc r => k c v ?_ r) (fun c r => by rw [upd_ne (nown c b r)]; exact r) fun c xs r => by rw [upd_ne (ntup c xs r)]; exact r
      rcases hc with rfl | hc
      · exact hbe
      · rintro rfl
        rcases he with z | z
        · exact nown c b hc z
        · rw [hc] at z; cases z; exact hb rfl
end
structure Un (fs ex : List Addr) (H H' : Hp) (h h' : Heap) : Prop where
  keep : ∀ b o, h.get? b = some o → H b = none → b ∉ fs → b ∉ ex → h'.get? b = some o
  slot : ∀ b o, h.get? b = some o → H b = none → b ∈ fs → b ∉ ex → ∃ sl, h'.get? b = some { o with slots := sl }
  free : ∀ b o, h.get? b = some o → H b = none → b ∉ ex → H' b = none
  there : ∀ b o, h.get? b = some o → b ∉ ex → ∃ o', h'.get? b = some o'
  tups : ∀ b xs, H b = some (.tup xs) → H' b = some (.tup xs)
  frzs : ∀ b o u, H b = some (.frz o u) → H' b = some (.frz o u)
  tbls : ∀ b ps, H b = some (.tbl ps) → ∃ more, H' b = some (.tbl (ps ++ more))
section
variable {fs fs' ex ex' : List Addr} {H H1 H2 : Hp} {h h1 h2 h' : Heap} {a x e : Addr} {o : HO}
theorem Un.any (u : Un fs ex H H1 h h1) {b : Addr} {ob : Obj} (q : h.get? b = some ob) (n : H b = none) (hx : b ∉ ex) : ∃ sl, h1.get? b = some { ob with slots := sl } := by
  by_cases hb : b ∈ fs
  · exact u.slot b ob q n hb hx
  · exact ⟨ob.slots, u.keep b ob q n hb hx⟩
theorem Un.trans (a : Un fs ex H H1 h h1) (b : Un fs ex H1 H2 h1 h2) : Un fs ex H H2 h h2 where
  keep := fun c ob q n hc hx => b.keep c ob (a.keep c ob q n hc hx) (a.free c ob q n hx) hc hx
  slot := fun c ob q n hc hx => by
    obtain ⟨sl, e1⟩ := a.slot c ob q n hc hx
    obtain ⟨sl', e2⟩ := b.slot c _ e1 (a.free c ob q n hx) hc hx
    exact ⟨sl', e2⟩
  free := fun c ob q n hx => by
    obtain ⟨o', e1⟩ := a.there c ob q hx
    exact b.free c o' e1 (a.free c ob q n hx) hx
  there := fun c ob q hx => by
    obtain ⟨o', e1⟩ := a.there c ob q hx
    exact b.there c o' e1 hx
  tups := fun c xs q => b.tups c xs (a.tups c xs q)
  frzs := fun c ob xs q => b.frzs c ob xs (a.frzs c ob xs q)
  tbls := fun c ps q => by
    obtain ⟨m1, e1⟩ := a.tbls c ps q
    obtain ⟨m2, e2⟩ := b.tbls c _ e1
    exact ⟨m1 ++ m2, by rw [e2, Array.append_assoc]⟩
theorem Un.kept (k : ∀ b u, h.get? b = some u → h'.get? b = some u) : Un fs ex H H h h' :=
  ⟨fun b ob q _ _ _ => k b ob q, fun b ob q _ _ _ => ⟨ob.slots, k b ob q⟩, fun _ _ _ n _ => n, fun b ob q _ => ⟨ob, k b ob q⟩, fun _ _ q => q, fun _ _ _ q => q, fun _ ps q => ⟨#[], by rw [q]; simp⟩⟩
theorem Un.refl : Un fs ex H H h h := Un.kept fun _ _ q => q
theorem Un.laid (k : ∀ b u, h.get? b = some u → h'.get? b = some u) (hp : h.objs.size ≤ a) (hn : H a = none) : Un fs ex H (upd H a o) h h' where
  keep := fun b u q _ _ _ => k b u q
  slot := fun b u q _ _ _ => ⟨u.slots, k b u q⟩
  free := fun b u q n _ => by rw [upd_ne (Nat.ne_of_lt (Nat.lt_of_lt_of_le (Heap.lt_size q) hp))]; exact n
  there := fun b u q _ => ⟨u, k b u q⟩
  tups := fun b xs q => by rw [upd_ne (ne_of_none q hn)]; exact q
  frzs := fun b u xs q => by rw [upd_ne (ne_of_none q hn)]; exact q
  tbls := fun b ps q => ⟨#[], by rw [upd_ne (ne_of_none q hn), q]; simp⟩
theorem Un.write (mu : Mut (H x)) (he : e = x ∨ H e = some (.own x)) (k : ∀ b u, b ≠ e → h.get? b = some u → h'.get? b = some u) (heo : ∃ u, h'.get? e = some u) : Un fs ex H (upd H x o) h h' := by
  have hx : ∀ b, H b = none → b ≠ x := fun b n z => by subst z; rw [n] at mu; exact mu
  have hb : ∀ b, H b = none → b ≠ e := fun b n z => by
    subst z
    rcases he with r | r
    · exact hx b n r
    · rw [n] at r; cases r
  have hm : ∀ b u, H b = some u → ¬ Mut (some u) → b ≠ x := fun b u q nm z => by subst z; rw [q] at mu; exact nm mu
  refine ⟨fun b u q n _ _ => k b u (hb b n) q, fun b u q n _ _ => ⟨u.slots, k b u (hb b n) q⟩, fun b u q n _ => by rw [upd_ne (hx b n)]; exact n, fun b u q _ => ?_,
    fun b xs q => by rw [upd_ne (hm b _ q fun z => z)]; exact q, fun b u xs q => by rw [upd_ne (hm b _ q fun z => z)]; exact q, fun b ps q => ⟨#[], by rw [upd_ne (hm b _ q fun z => z), q]; simp⟩⟩
  by_cases hbe : b = e
  · subst hbe; exact heo
  · exact ⟨u, k b u hbe q⟩
theorem Un.mono (u : Un fs ex H H1 h h1) (hs : ∀ b ∈ fs, b ∈ fs') (hx : ∀ b ∈ ex, b ∈ ex') : Un fs' ex' H H1 h h1 :=
  ⟨fun b ob q n hb he => u.keep b ob q n (fun z => hb (hs b z)) fun z => he (hx b z), fun _ _ q n _ he => u.any q n fun z => he (hx _ z), fun b ob q n he => u.free b ob q n fun z => he (hx b z), fun b ob q he => u.there b ob q fun z => he (hx b z), u.tups, u.frzs, u.tbls⟩
end
def trk (h : Heap) (H : Hp) : List Addr := (List.range h.objs.size).filter fun a => (H a).isSome
def hidT (h : Heap) (H : Hp) : Heap := PySem.W.hideAll h (trk h H)
theorem hidT_size (h : Heap) (H : Hp) : (hidT h H).objs.size = h.objs.size := PySem.W.hideAll_size _ _
theorem hidT_get {h : Heap} {H : Hp} {b : Addr} {o : Obj} (e : h.get? b = some o) (n : H b = none) : (hidT h H).get? b = some o :=
  PySem.W.hideAll_get _ e fun hm => by
    have q : (H b).isSome = true := (List.mem_filter.mp hm).2
    rw [n] at q; simp at q
theorem of_hidT {h : Heap} {H : Hp} {b : Addr} {o : Obj} (e : (hidT h H).get? b = some o) : h.get? b = some o ∧ H b = none := by
  have e' : h.get? b = some o := PySem.W.of_hideAll (trk h H) e
  refine ⟨e', ?_⟩
  cases q : H b with
  | none => rfl
  | some x =>
    have hm : b ∈ trk h H := List.mem_filter.mpr ⟨List.mem_range.mpr (Heap.lt_size e'), by simp [q]⟩
    have z : (hidT h H).get? b = none := PySem.W.hideAll_none (trk h H) hm
    rw [z] at e; cases e
def allNews (g h : Heap) (L : Addr) : List (Addr × Obj) := (List.range h.objs.size).filterMap fun a => if a = L ∨ (g.get? a).isSome = true then none else (h.get? a).map fun o => (a, o)
def rest (g h : Heap) (L d : Addr) : List (Addr × Obj) := (allNews g h L).filter fun p => decide (p.1 ≠ d)
end L2
namespace L2
open PySem PySem.Spec PyProof.Rows
structure Mod (K : PySem.W.Frag) (mg : Str → Option Value) (base : Heap) : Prop where
  kin : K.In base
  glob : base.Ns mainGlobals mg
  blt : ∃ mb, base.Ns builtinsNs mb ∧ ∀ x : Str, x ≠ "__name__" → mb x = bootBuiltins x
  nolimit : base.NoLimit
structure Cx where
  prog : Program
  w : World
  K : PySem.W.Frag
  mg : Str → Option Value
  base : Heap
  A : Around
  N : List Str
  s₀ : Shared
  H₀ : Hp
  env : Env
  outer : List Env
  stack : List Env
  ex : List Addr
  fn : Str → Bool
  calm : Bool
  pn : List (Addr × Obj)
  xe : Value → Shared → Prop
def frs (l : List Env) : List Addr := l.filterMap (·.frame)
abbrev Cx.fs (X : Cx) : List Addr := frs X.outer
def Vis (sc : Scope) (x : Str) : Prop := sc.names.lookup x = some .local ∨ sc.names.lookup x = some .cell ∨ sc.names.lookup x = some .free
def Loc (sc : Scope) (x : Str) : Prop := sc.names.lookup x = some .local ∨ sc.names.lookup x = some .cell
def Look (env : Env) (h : Heap) (m : Str → Option Value) (x : Str) (u : Value) : Prop :=
  (env.kindOf x = some .local ∧ m x = some u) ∨ ((env.kindOf x = some .cell ∨ env.kindOf x = some .free) ∧ ∃ c, env.cells.lookup x = some c ∧ h.IsCell c (some u))
structure Cx.Ok (X : Cx) : Prop where
  mod : Mod X.K X.mg X.base
  kind : X.env.scope.kind = .function
  glob : X.env.globals = mainGlobals
  blt : X.env.builtins = builtinsNs
  above : X.s₀.heap.objs.size ≤ X.env.locals
  inj : ∀ x y c, X.env.cells.lookup x = some c → X.env.cells.lookup y = some c → x = y
  has : ∀ x, (X.env.kindOf x = some .cell ∨ X.env.kindOf x = some .free) → ∃ c, X.env.cells.lookup x = some c
  cab : ∀ x c, X.fn x = true → X.env.cells.lookup x = some c → X.s₀.heap.objs.size ≤ c
  hd : X.calm = true → X.A.handled = none
  frames : X.A.frames = some X.stack
  stk : X.stack = X.outer ∨ (X.stack = X.env :: X.outer ∧ X.env.frame = some X.env.locals)
  exf : ∀ b ∈ X.ex, b ≠ X.env.locals ∧ ∀ x c, X.env.cells.lookup x = some c → c ≠ b
  bs : ∀ b o, X.base.get? b = some o → X.s₀.heap.get? b = some o ∧ X.H₀ b = none
  bsz : X.base.objs.size ≤ X.s₀.heap.objs.size
  noex : ∀ b o, X.base.get? b = some o → b ∉ X.ex
  exfs : ∀ b ∈ X.ex, b ∉ X.fs
  funs : X.s₀.heap.FunFrames X.base X.outer
  frf : ∀ b ∈ X.fs, X.H₀ b = none
structure Inv (X : Cx) (pins : List (Addr × Obj)) (σ : List (Option V)) (H : Hp) (s : Shared) : Prop where
  ok : X.Ok
  os : s.os = X.s₀.os
  bare : AllBare s.gens
  base : Un X.fs X.ex X.H₀ H X.s₀.heap s.heap
  loc : ∃ m, s.heap.Ns X.env.locals m ∧ ∀ (i : Nat) (x : Str) (v : V), X.N[i]? = some x → σ[i]? = some (some v) → Vis X.env.scope x → ∃ u, RelV v u ∧ Look X.env s.heap m x u
  cell : ∀ x c, X.env.cells.lookup x = some c → ∃ v, s.heap.IsCell c v
  free : H X.env.locals = none
  freeC : ∀ x c, X.env.cells.lookup x = some c → H c = none
  pin : ∀ p ∈ X.pn ++ pins, s.heap.get? p.1 = some p.2 ∧ H p.1 = none ∧ p.1 ≠ X.env.locals ∧ p.1 ∉ X.fs ∧ ∀ v, p.2.data ≠ .cell v
  hok : HOk X.prog X.w H s.heap
  len : σ.length = X.N.length
section
variable {X : Cx} {pins : List (Addr × Obj)} {σ : List (Option V)} {H H' : Hp} {s : Shared} {h' : Heap}
theorem Cx.Ok.nofr (ok : X.Ok) {b : Addr} {o : Obj} (e : X.base.get? b = some o) : b ∉ X.fs := fun hb => by
  have := (ok.funs.mem hb).1
  rw [e] at this; cases this
theorem Inv.bs (I : Inv X pins σ H s) : ∀ b o, X.base.get? b = some o → s.heap.get? b = some o ∧ H b = none := fun b o e =>
  ⟨I.base.keep b o (I.ok.bs b o e).1 (I.ok.bs b o e).2 (I.ok.nofr e) (I.ok.noex b o e), I.base.free b o (I.ok.bs b o e).1 (I.ok.bs b o e).2 (I.ok.noex b o e)⟩
theorem Inv.bk (I : Inv X pins σ H s) : ∀ b o, X.base.get? b = some o → s.heap.get? b = some o := fun b o e => (I.bs b o e).1
theorem Inv.mod (I : Inv X pins σ H s) : Mod X.K X.mg X.base := I.ok.mod
theorem Inv.kIn (I : Inv X pins σ H s) : X.K.In s.heap := I.ok.mod.kin.keeps I.bk
theorem Inv.nolimit (I : Inv X pins σ H s) : s.heap.NoLimit := I.ok.mod.nolimit.keeps I.bk
theorem Inv.fr (I : Inv X pins σ H s) : ∃ m, Fr X.base X.env.locals s.heap m :=
  let ⟨m, hn, _⟩ := I.loc
  ⟨m, hn, I.bk, Nat.le_trans I.ok.bsz I.ok.above⟩
theorem Inv.lt (I : Inv X pins σ H s) : X.env.locals < s.heap.objs.size := let ⟨_, hn, _⟩ := I.loc; hn.lt
theorem Inv.sz (I : Inv X pins σ H s) : X.s₀.heap.objs.size ≤ s.heap.objs.size := Nat.le_trans I.ok.above (Nat.le_of_lt I.lt)
theorem Inv.nofs (I : Inv X pins σ H s) {a : Addr} (h : s.heap.objs.size ≤ a) : a ∉ X.fs := fun hb => by
  obtain ⟨_, o, ho, _⟩ := I.ok.funs.mem hb
  exact absurd (Nat.lt_of_lt_of_le (Heap.lt_size ho) (Nat.le_trans I.sz h)) (Nat.lt_irrefl _)
theorem Inv.cne (I : Inv X pins σ H s) : ∀ x c, X.env.cells.lookup x = some c → c ≠ X.env.locals := fun x c e z => by
  obtain ⟨v, o, ho, hd⟩ := I.cell x c e
  obtain ⟨m, ⟨o', es, ep, ho', hd', _⟩, _⟩ := I.loc
  rw [z, ho'] at ho; cases ho; rw [hd'] at hd; cases hd
theorem Inv.funs (I : Inv X pins σ H s) : s.heap.FunFrames X.base X.outer := by
  have all : ∀ (l : List Env), (∀ b ∈ frs l, b ∈ X.fs) → X.s₀.heap.FunFrames X.base l → s.heap.FunFrames X.base l := by
    intro l
    induction l with
    | nil => intro _ _; trivial
    | cons env r ih =>
      intro hs hl
      obtain ⟨hk, ⟨L, o, hf, hn, ho, hd⟩, hr⟩ := hl
      have hL : L ∈ X.fs := hs L (by unfold frs; rw [List.filterMap_cons, hf]; exact List.mem_cons_self)
      obtain ⟨sl, e⟩ := I.base.slot L o ho (I.ok.frf L hL) hL fun z => I.ok.exfs L z hL
      exact ⟨hk, ⟨L, _, hf, hn, e, hd⟩, ih (fun b hb => hs b (by unfold frs; rw [List.filterMap_cons, hf]; exact List.mem_cons_of_mem _ hb)) hr⟩
  exact all X.outer (fun _ hb => hb) I.ok.funs
theorem Inv.stack (I : Inv X pins σ H s) : s.heap.FunFrames X.base X.stack := by
  rcases I.ok.stk with e | ⟨e, hf⟩
  · rw [e]; exact I.funs
  · rw [e]
    obtain ⟨m, hn, _⟩ := I.loc
    refine .cons (by rw [I.ok.kind]; decide) hf hn ?_ I.funs
    exact Heap.get?_none_of_le (Nat.le_trans I.ok.bsz I.ok.above)
theorem Inv.stkSub (I : Inv X pins σ H s) : ∀ b ∈ frs X.stack, b ∈ X.env.locals :: X.fs := fun b hb => by
  rcases I.ok.stk with e | ⟨e, hf⟩
  · rw [e] at hb; exact List.mem_cons_of_mem _ hb
  · rw [e] at hb
    unfold frs at hb
    rw [List.filterMap_cons, hf] at hb
    exact hb
theorem Inv.stkFree (I : Inv X pins σ H s) : ∀ b ∈ frs X.stack, H b = none := fun b hb => by
  rcases List.mem_cons.mp (I.stkSub b hb) with e | hb
  · rw [e]; exact I.free
  · obtain ⟨_, o, ho, _⟩ := I.ok.funs.mem hb
    exact I.base.free b o ho (I.ok.frf b hb) fun z => I.ok.exfs b z hb
theorem Inv.step {g' : Array GenState} {t' : Nat} {d' : Drawn} {ch : List Addr} (I : Inv X pins σ H s)
    (hch : ∀ b ∈ ch, (b ∈ X.ex ∨ X.s₀.heap.objs.size ≤ b) ∧ b ≠ X.env.locals ∧ (∀ x c, X.env.cells.lookup x = some c → c ≠ b) ∧ ∀ p ∈ X.pn ++ pins, p.1 ≠ b)
    (keep : ∀ b o, b ≠ X.env.locals → b ∉ X.fs → b ∉ ch → s.heap.get? b = some o → H b = none → h'.get? b = some o)
    (slot : ∀ b o, b ≠ X.env.locals → b ∈ X.fs → b ∉ ch → s.heap.get? b = some o → H b = none → ∃ sl, h'.get? b = some { o with slots := sl }) (free : ∀ b o, b ∉ ch → s.heap.get? b = some o → H b = none → H' b = none)
    (there : ∀ b o, b ∉ ch → s.heap.get? b = some o → ∃ o', h'.get? b = some o')
    (tups : ∀ b xs, H b = some (.tup xs) → H' b = some (.tup xs)) (frzs : ∀ b o u, H b = some (.frz o u) → H' b = some (.frz o u)) (tbls : ∀ b ps, H b = some (.tbl ps) → ∃ more, H' b = some (.tbl (ps ++ more)))
    (ns : ∀ m, s.heap.Ns X.env.locals m → h'.Ns X.env.locals m) (hok : HOk X.prog X.w H' h') (hg : AllBare g') :
    Inv X pins σ H' { s with heap := h', gens := g', drawn := d', toks := t' } := by
  have neL : ∀ b o, X.s₀.heap.get? b = some o → b ≠ X.env.locals := fun b o e => Nat.ne_of_lt (Nat.lt_of_lt_of_le (Heap.lt_size e) I.ok.above)
  have neC : ∀ b o, X.s₀.heap.get? b = some o → b ∉ X.ex → b ∉ ch := fun b o e hx hb => by
    rcases (hch b hb).1 with z | z
    · exact hx z
    · exact absurd (Nat.lt_of_lt_of_le (Heap.lt_size e) z) (Nat.lt_irrefl _)
  have cellK : ∀ x c, X.env.cells.lookup x = some c → ∀ v, s.heap.IsCell c v → h'.IsCell c v := fun x c e v ⟨o, ho, hd⟩ => by
    have nch : c ∉ ch := fun z => (hch c z).2.2.1 x c e rfl
    by_cases hc : c ∈ X.fs
    · obtain ⟨sl, q⟩ := slot c o (I.cne x c e) hc nch ho (I.freeC x c e)
      exact ⟨_, q, hd⟩
    · exact ⟨o, keep c o (I.cne x c e) hc nch ho (I.freeC x c e), hd⟩
  refine ⟨I.ok, I.os, hg, ⟨fun b o e n hb hx => ?_, fun b o e n hb hx => ?_, fun b o e n hx => ?_, fun b o e hx => ?_, fun b xs e => tups b xs (I.base.tups b xs e), fun b o xs e => frzs b o xs (I.base.frzs b o xs e), fun b ps e => ?_⟩, ?_, fun x c e => ?_, ?_, fun x c e => ?_, fun p hp => ?_, hok, I.len⟩
  · exact keep b o (neL b o e) hb (neC b o e hx) (I.base.keep b o e n hb hx) (I.base.free b o e n hx)
  · obtain ⟨sl, e1⟩ := I.base.slot b o e n hb hx
    obtain ⟨sl', e2⟩ := slot b _ (neL b o e) hb (neC b o e hx) e1 (I.base.free b o e n hx)
    exact ⟨sl', e2⟩
  · obtain ⟨o', e1⟩ := I.base.there b o e hx
    exact free b o' (neC b o e hx) e1 (I.base.free b o e n hx)
  · obtain ⟨o', e1⟩ := I.base.there b o e hx
    exact there b o' (neC b o e hx) e1
  · obtain ⟨m1, e1⟩ := I.base.tbls b ps e
    obtain ⟨m2, e2⟩ := tbls b _ e1
    exact ⟨m1 ++ m2, by rw [e2, Array.append_assoc]⟩
  · obtain ⟨m, hn, hl⟩ := I.loc
    refine ⟨m, ns m hn, fun i x v e1 e2 e3 => ?_⟩
    obtain ⟨u, r, l⟩ := hl i x v e1 e2 e3
    refine ⟨u, r, ?_⟩
    rcases l with l | ⟨k, c, e, z⟩
    · exact .inl l
    · exact .inr ⟨k, c, e, cellK x c e _ z⟩
  · obtain ⟨v, z⟩ := I.cell x c e
    exact ⟨v, cellK x c e v z⟩
  · obtain ⟨m, ⟨o, _, _, ho, _⟩, _⟩ := I.loc
    exact free _ o (fun z => (hch _ z).2.1 rfl) ho I.free
  · obtain ⟨v, o, ho, hd⟩ := I.cell x c e
    exact free c o (fun z => (hch c z).2.2.1 x c e rfl) ho (I.freeC x c e)
  · obtain ⟨e, n, ne, nf, d⟩ := I.pin p hp
    have nch : p.1 ∉ ch := fun z => (hch p.1 z).2.2.2 p hp rfl
    exact ⟨keep p.1 p.2 ne nf nch e n, free p.1 p.2 nch e n, ne, nf, d⟩
theorem Inv.un {t' : Nat} (I : Inv X pins σ H s) (u : Un X.fs [] H H' s.heap h') (hok : HOk X.prog X.w H' h') : Inv X pins σ H' { s with heap := h', toks := t' } := by
  obtain ⟨m, ⟨o, es, ep, ho, r⟩, _⟩ := id I.loc
  obtain ⟨sl, hL⟩ := u.any ho I.free (by simp)
  exact I.step (g' := s.gens) (d' := s.drawn) (ch := []) (fun _ z => nomatch z) (fun b o _ hb _ e n => u.keep b o e n hb (by simp)) (fun b o _ hb _ e n => u.slot b o e n hb (by simp)) (fun b o _ e n => u.free b o e n (by simp)) (fun b o _ e => u.there b o e (by simp)) u.tups u.frzs u.tbls (fun m' hm => by
    obtain ⟨o', es', ep', ho', r'⟩ := hm
    rw [ho] at ho'; cases ho'
    exact ⟨_, es', ep', hL, r'⟩) hok I.bare
theorem Inv.call {g' : Array GenState} {t' : Nat} {d' : Drawn} {ch : List Addr} (I : Inv X pins σ H s) (u : Un (frs X.stack) ch H H' s.heap h') (hok : HOk X.prog X.w H' h') (hg : AllBare g')
    (hch : ∀ b ∈ ch, (b ∈ X.ex ∨ X.s₀.heap.objs.size ≤ b) ∧ b ≠ X.env.locals ∧ (∀ x c, X.env.cells.lookup x = some c → c ≠ b) ∧ ∀ p ∈ X.pn ++ pins, p.1 ≠ b) :
    Inv X pins σ H' { s with heap := h', gens := g', drawn := d', toks := t' } := by
  obtain ⟨m, ⟨o, es, ep, ho, r⟩, _⟩ := id I.loc
  obtain ⟨sl, hL⟩ := u.any ho I.free fun z => (hch _ z).2.1 rfl
  exact I.step (ch := ch) hch (fun b o hL hb hc e n => u.keep b o e n (fun z => (List.mem_cons.mp (I.stkSub b z)).elim hL hb) hc) (fun b o _ _ hc e n => u.any e n hc) (fun b o hc e n => u.free b o e n hc) (fun b o hc e => u.there b o e hc) u.tups u.frzs u.tbls (fun m' hm => by
    obtain ⟨o', es', ep', ho', r'⟩ := hm
    rw [ho] at ho'; cases ho'
    exact ⟨_, es', ep', hL, r'⟩) hok hg
theorem Inv.turned {t' : Nat} {it : Addr} (I : Inv X pins σ H s) (k : ∀ b o, b ≠ it → s.heap.get? b = some o → h'.get? b = some o) (hn : H it = none) (hL : it ≠ X.env.locals)
    (h1 : it ∈ X.ex ∨ X.s₀.heap.objs.size ≤ it) (h2 : ∀ x c, X.env.cells.lookup x = some c → c ≠ it) (h3 : ∀ p ∈ X.pn ++ pins, p.1 ≠ it) : Inv X pins σ H { s with heap := h', toks := t' } := by
  have nit : ∀ b u, H b = some u → b ≠ it := fun b u e z => by rw [z, hn] at e; cases e
  refine I.step (g' := s.gens) (d' := s.drawn) (ch := [it]) (fun b hb => ?_) (fun b o _ _ hc e _ => k b o (fun z => hc (by simp [z])) e) (fun b o _ _ hc e _ => ⟨o.slots, k b o (fun z => hc (by simp [z])) e⟩) (fun _ _ _ _ n => n)
    (fun b o hc e => ⟨o, k b o (fun z => hc (by simp [z])) e⟩) (fun _ _ e => e) (fun _ _ _ e => e) (fun b ps e => ⟨#[], by rw [e]; simp⟩) (fun m hm => ?_) (fun b u e => ?_) I.bare
  · have e : b = it := by simpa using hb
    subst e
    exact ⟨h1, hL, h2, h3⟩
  · obtain ⟨o, es, ep, ho, r⟩ := hm
    exact ⟨o, es, ep, k _ o (Ne.symm hL) ho, r⟩
  · refine (I.hok b u e).stay (fun c v hc q => k c v ?_ q) (fun _ q => q) fun _ _ q => q
    rcases hc with z | z
    · rw [z]; exact nit b u e
    · exact nit c _ z
theorem Inv.tok (I : Inv X pins σ H s) (t : Nat) : Inv X pins σ H { s with toks := t } := I.un (h' := s.heap) (t' := t) Un.refl I.hok
theorem Inv.kept {t' : Nat} (I : Inv X pins σ H s) (k : ∀ b u, s.heap.get? b = some u → h'.get? b = some u) : Inv X pins σ H { s with heap := h', toks := t' } := I.un (Un.kept k) (I.hok.kept k)
theorem Inv.laid {a : Addr} {o : HO} {t' : Nat} (I : Inv X pins σ H s) (k : ∀ b u, s.heap.get? b = some u → h'.get? b = some u) (hp : s.heap.objs.size ≤ a) (new : ObjOk X.prog X.w (upd H a o) h' a o) :
    Inv X pins σ (upd H a o) { s with heap := h', toks := t' } := I.un (Un.laid k hp (I.hok.fresh hp)) (I.hok.laid k hp new)
theorem Inv.write {x e : Addr} {o : HO} {t' : Nat} (I : Inv X pins σ H s) (mu : Mut (H x)) (he : e = x ∨ H e = some (.own x)) (k : ∀ b u, b ≠ e → s.heap.get? b = some u → h'.get? b = some u) (heo : ∃ u, h'.get? e = some u)
    (new : ObjOk X.prog X.w (upd H x o) h' x o) : Inv X pins σ (upd H x o) { s with heap := h', toks := t' } := I.un (Un.write mu he k heo) (I.hok.write mu he k heo new)
theorem Inv.weak {σ' : List (Option V)} (I : Inv X pins σ H s) (hl : σ'.length = σ.length) (w : ∀ (i : Nat) v, σ'[i]? = some (some v) → σ[i]? = some (some v)) : Inv X pins σ' H s :=
  ⟨I.ok, I.os, I.bare, I.base, let ⟨m, hn, hl'⟩ := I.loc; ⟨m, hn, fun i x v e1 e2 e3 => hl' i x v e1 (w i v e2) e3⟩, I.cell, I.free, I.freeC, I.pin, I.hok, hl.trans I.len⟩
theorem Inv.pins_of {pins' : List (Addr × Obj)} (I : Inv X pins σ H s) (h : ∀ p ∈ pins', s.heap.get? p.1 = some p.2 ∧ H p.1 = none ∧ p.1 ≠ X.env.locals ∧ p.1 ∉ X.fs ∧ ∀ v, p.2.data ≠ .cell v) : Inv X pins' σ H s :=
  ⟨I.ok, I.os, I.bare, I.base, I.loc, I.cell, I.free, I.freeC, fun p hp => (List.mem_append.mp hp).elim (fun z => I.pin p (List.mem_append_left _ z)) (h p), I.hok, I.len⟩
theorem nodup_ix {N : List Str} (hN : N.Nodup) {i j : Nat} {x : Str} (a : N[i]? = some x) (b : N[j]? = some x) : i = j := by
  obtain ⟨h1, e1⟩ := List.getElem?_eq_some_iff.mp a
  obtain ⟨h2, e2⟩ := List.getElem?_eq_some_iff.mp b
  exact (List.getElem_inj hN).mp (e1.trans e2.symm)
theorem store_ok2 {M : Model} {A : Around} {E : Value → Shared → Prop} {i : Nat} {x : Str} {v : V} {u : Value} {Q : Unit → Shared → Prop} (I : Inv X pins σ H s) (hN : X.N.Nodup) (hi : X.N[i]? = some x) (hx : Loc X.env.scope x) (r : RelV v u)
    (h : ∀ s', Inv X pins (σ.set i (some v)) H s' → (∃ a, Heap.SameBut a s.heap s'.heap ∧ (a = X.env.locals ∨ X.env.cells.lookup x = some a)) → Q () s') (hf : X.fn x = true ∨ X.env.scope.names.lookup x = some .local := by first | exact .inl rfl | exact .inr rfl | assumption) : wpAny M A (storeName X.env x u) Q E s := by
  obtain ⟨m, hn, hl⟩ := id I.loc
  have hcls : (X.env.scope.kind == .class || (X.env.scope.kind == .module && X.env.locals != X.env.globals)) = false := by rw [I.ok.kind]; rfl
  have hiσ : i < σ.length := by rw [I.len]; exact (List.getElem?_eq_some_iff.mp hi).1
  have cne := I.cne
  have tracked : ∀ {a : Addr} {h' : Heap}, (∃ o, s.heap.get? a = some o ∧ H a = none) → Heap.SameBut a s.heap h' → HOk X.prog X.w H h' := fun {a h'} ha hs b ob e => by
    obtain ⟨_, _, hfree⟩ := ha
    refine (I.hok b ob e).stay (fun c w' hc q => (hs.2 c ?_).trans q) (fun _ q => q) fun _ _ q => q
    rintro rfl
    rcases hc with rfl | hc
    · rw [hfree] at e; cases e
    · rw [hfree] at hc; cases hc
  rcases hx with hk | hk
  · refine wpAny_storeName_local hk hn (fun h' hn' hs => ?_) hcls
    obtain ⟨oL, _, _, hoL, _⟩ := id hn
    refine h _ ⟨I.ok, I.os, I.bare, ⟨fun b o e n hb hx => ?_, fun b o e n hb hx => ?_, I.base.free, fun b o e hx => ?_, I.base.tups, I.base.frzs, I.base.tbls⟩, ⟨_, hn', fun j y v' e1 e2 e3 => ?_⟩, fun y c e => ?_, I.free, I.freeC, fun p hp => ?_, tracked ⟨oL, hoL, I.free⟩ hs, by simpa using I.len⟩ ⟨_, hs, .inl rfl⟩
    · exact (hs.2 b (Nat.ne_of_lt (Nat.lt_of_lt_of_le (Heap.lt_size e) I.ok.above))).trans (I.base.keep b o e n hb hx)
    · obtain ⟨sl, e1⟩ := I.base.slot b o e n hb hx
      exact ⟨sl, (hs.2 b (Nat.ne_of_lt (Nat.lt_of_lt_of_le (Heap.lt_size e) I.ok.above))).trans e1⟩
    · obtain ⟨o', e1⟩ := I.base.there b o e hx
      exact ⟨o', (hs.2 b (Nat.ne_of_lt (Nat.lt_of_lt_of_le (Heap.lt_size e) I.ok.above))).trans e1⟩
    · by_cases hj : j = i
      · subst hj
        rw [hi] at e1; cases e1
        rw [List.getElem?_set_self hiσ] at e2
        cases e2
        exact ⟨u, r, .inl ⟨hk, by simp⟩⟩
      · rw [List.getElem?_set_ne (Ne.symm hj)] at e2
        obtain ⟨u', r', q⟩ := hl j y v' e1 e2 e3
        refine ⟨u', r', ?_⟩
        rcases q with ⟨k, e⟩ | ⟨k, c, e, z⟩
        · refine .inl ⟨k, ?_⟩
          have : y ≠ x := fun e => hj (nodup_ix hN e1 (e ▸ hi))
          simp [this, e]
        · exact .inr ⟨k, c, e, z.sameBut hs (cne y c e)⟩
    · obtain ⟨w', z⟩ := I.cell y c e
      exact ⟨w', z.sameBut hs (cne y c e)⟩
    · obtain ⟨e, n, ne, nf, d⟩ := I.pin p hp
      exact ⟨(hs.2 p.1 ne).trans e, n, ne, nf, d⟩
  · have hfn : X.fn x = true := by
      rcases hf with z | z
      · exact z
      · rw [z] at hk; cases hk
    obtain ⟨c, hc⟩ := I.ok.has x (.inl hk)
    obtain ⟨w', z⟩ := I.cell x c hc
    refine wpAny_storeName_cell I.ok.kind hk hc z (fun h' hc' hs => ?_)
    obtain ⟨oc, hoc, hocd⟩ := id z
    refine h { s with heap := h' } ⟨I.ok, I.os, I.bare, ⟨fun b o e n hb hx => ?_, fun b o e n hb hx => ?_, I.base.free, fun b o e hx => ?_, I.base.tups, I.base.frzs, I.base.tbls⟩, ⟨m, hn.sameBut hs (Ne.symm (cne x c hc)), fun j y v' e1 e2 e3 => ?_⟩, fun y c' e => ?_, I.free, I.freeC, fun p hp => ?_, tracked ⟨oc, hoc, I.freeC x c hc⟩ hs, by simpa using I.len⟩ ⟨c, hs, .inr hc⟩
    · exact (hs.2 b (Nat.ne_of_lt (Nat.lt_of_lt_of_le (Heap.lt_size e) (I.ok.cab x c hfn hc)))).trans (I.base.keep b o e n hb hx)
    · obtain ⟨sl, e1⟩ := I.base.slot b o e n hb hx
      exact ⟨sl, (hs.2 b (Nat.ne_of_lt (Nat.lt_of_lt_of_le (Heap.lt_size e) (I.ok.cab x c hfn hc)))).trans e1⟩
    · obtain ⟨o', e1⟩ := I.base.there b o e hx
      exact ⟨o', (hs.2 b (Nat.ne_of_lt (Nat.lt_of_lt_of_le (Heap.lt_size e) (I.ok.cab x c hfn hc)))).trans e1⟩
    · by_cases hj : j = i
      · subst hj
        rw [hi] at e1; cases e1
        rw [List.getElem?_set_self hiσ] at e2
        cases e2
        exact ⟨u, r, .inr ⟨.inl hk, c, hc, hc'⟩⟩
      · rw [List.getElem?_set_ne (Ne.symm hj)] at e2
        obtain ⟨u', r', q⟩ := hl j y v' e1 e2 e3
        refine ⟨u', r', ?_⟩
        rcases q with q | ⟨k, c', e, z'⟩
        · exact .inl q
        · refine .inr ⟨k, c', e, z'.sameBut hs ?_⟩
          rintro rfl
          exact hj (nodup_ix hN e1 (I.ok.inj _ _ _ e hc ▸ hi))
    · by_cases hcc : c' = c
      · subst hcc; exact ⟨_, hc'⟩
      · obtain ⟨w2, z2⟩ := I.cell y c' e
        exact ⟨w2, z2.sameBut hs hcc⟩
    · obtain ⟨e, n, ne, nf, d⟩ := I.pin p hp
      refine ⟨(hs.2 p.1 ?_).trans e, n, ne, nf, d⟩
      intro q
      rw [q, hoc] at e
      have q' : oc = p.2 := Option.some.inj e
      exact d w' (by rw [← q']; exact hocd)
theorem store_ok {M : Model} {A : Around} {E : Value → Shared → Prop} {i : Nat} {x : Str} {v : V} {u : Value} {Q : Unit → Shared → Prop} (I : Inv X pins σ H s) (hN : X.N.Nodup) (hi : X.N[i]? = some x) (hx : Loc X.env.scope x) (r : RelV v u)
    (h : ∀ s', Inv X pins (σ.set i (some v)) H s' → Q () s') (hf : X.fn x = true ∨ X.env.scope.names.lookup x = some .local := by first | exact .inl rfl | exact .inr rfl | assumption) : wpAny M A (storeName X.env x u) Q E s :=
  store_ok2 I hN hi hx r (fun s' I' _ => h s' I') hf
theorem Inv.call' {s' : Shared} {ch : List Addr} (I : Inv X pins σ H s) (ho : s'.os = s.os) (u : Un (frs X.stack) ch H H' s.heap s'.heap) (hok : HOk X.prog X.w H' s'.heap) (hg : AllBare s'.gens)
    (hch : ∀ b ∈ ch, (b ∈ X.ex ∨ X.s₀.heap.objs.size ≤ b) ∧ b ≠ X.env.locals ∧ (∀ x c, X.env.cells.lookup x = some c → c ≠ b) ∧ ∀ p ∈ X.pn ++ pins, p.1 ≠ b) : Inv X pins σ H' s' := by
  obtain ⟨h', g', d', t', o'⟩ := s'
  have e : o' = s.os := ho
  subst e
  exact I.call (g' := g') (t' := t') (d' := d') u hok hg hch
end
abbrev XK := Value → Option Addr → Hp → Prop
abbrev St := List (Option V)
abbrev VK := V → Hp → Prop
abbrev TE := St → Hp → VK → Prop
abbrev TT := St → Hp → (Bool → Hp → Prop) → Prop
abbrev TA := St → Hp → (List V → Hp → Prop) → Prop
structure Ends where
  nx : St → Hp → Prop
  rt : VK
  bk : St → Hp → Prop := fun _ _ => False
  ct : St → Hp → Prop := fun _ _ => False
abbrev TS := Ends → St → Hp → Prop
def EP (X : Cx) (pins : List (Addr × Obj)) (σ : St) (Q : VK) (u : Value) (s' : Shared) : Prop := ∃ v H', Inv X pins σ H' s' ∧ RelV v u ∧ Q v H'
def TP (X : Cx) (pins : List (Addr × Obj)) (σ : St) (Q : Bool → Hp → Prop) (b : Bool) (s' : Shared) : Prop := ∃ H', Inv X pins σ H' s' ∧ Q b H'
def AP (X : Cx) (pins : List (Addr × Obj)) (σ : St) (Q : List V → Hp → Prop) (us : List Value) (s' : Shared) : Prop := ∃ vs H', Inv X pins σ H' s' ∧ Vals vs us ∧ Q vs H'
def SP (X : Cx) (pins : List (Addr × Obj)) (D : Ends) (f : Flow) (s' : Shared) : Prop :=
  match f with
  | .next => ∃ σ' H', Inv X pins σ' H' s' ∧ D.nx σ' H'
  | .brk => ∃ σ' H', Inv X pins σ' H' s' ∧ D.bk σ' H'
  | .cont => ∃ σ' H', Inv X pins σ' H' s' ∧ D.ct σ' H'
  | .ret u => ∃ v σ' H', Inv X pins σ' H' s' ∧ RelV v u ∧ D.rt v H'
def PE (X : Cx) (e : Expr) (t : TE) : Prop :=
  ∀ (pins : List (Addr × Obj)) (s : Shared) (σ : St) (H : Hp) (Q : VK), Inv X pins σ H s → t σ H Q → wpAny (model X.prog X.w) X.A (eval e X.env) (EP X pins σ Q) X.xe s
def PT (X : Cx) (e : Expr) (t : TT) : Prop :=
  ∀ (pins : List (Addr × Obj)) (s : Shared) (σ : St) (H : Hp) (Q : Bool → Hp → Prop), Inv X pins σ H s → t σ H Q → wpAny (model X.prog X.w) X.A (isTrue e X.env (eval e X.env)) (TP X pins σ Q) X.xe s
def PW (X : Cx) (e : Expr) (t : TT) : Prop :=
  ∀ (whole : Sem Value) (pins : List (Addr × Obj)) (s : Shared) (σ : St) (H : Hp) (Q : Bool → Hp → Prop), Inv X pins σ H s → t σ H Q → wpAny (model X.prog X.w) X.A (isTrue e X.env whole) (TP X pins σ Q) X.xe s
theorem PW.pt {X : Cx} {e : Expr} {t : TT} (h : PW X e t) : PT X e t := h _
def PA (X : Cx) (es : List Expr) (t : TA) : Prop :=
  ∀ (pos : Pos) (pins : List (Addr × Obj)) (s : Shared) (σ : St) (H : Hp) (Q : List V → Hp → Prop), Inv X pins σ H s → t σ H Q → wpAny (model X.prog X.w) X.A (spliced (backTo pos (starEach es X.env))) (AP X pins σ Q) X.xe s
def PS (X : Cx) (st : Stmt) (t : TS) : Prop :=
  ∀ (pins : List (Addr × Obj)) (s : Shared) (σ : St) (H : Hp) (D : Ends), Inv X pins σ H s → t D σ H → wpAny (model X.prog X.w) X.A (exec st X.env) (SP X pins D) X.xe s
def PSs (X : Cx) (st : List Stmt) (t : TS) : Prop :=
  ∀ (pins : List (Addr × Obj)) (s : Shared) (σ : St) (H : Hp) (D : Ends), Inv X pins σ H s → t D σ H → wpAny (model X.prog X.w) X.A (execs st X.env) (SP X pins D) X.xe s
theorem thn {α : Type} {t : Sem α} {Q Q' : α → Shared → Prop} {M : Model} {A : Around} {E : Value → Shared → Prop} {s : Shared} (h : wpAny M A t Q E s) (hQ : ∀ a s, Q a s → Q' a s) : wpAny M A t Q' E s := wpAny_mono h hQ fun _ _ x => x
end L2
namespace L2
open PySem PySem.Spec PyProof.Rows
section
variable {X : Cx}
def tVar (i : Nat) : TE := fun σ H Q => ∃ v, σ[i]? = some (some v) ∧ Q v H
def tC (v : V) : TE := fun _ H Q => Q v H
theorem pe_var {i : Nat} {x : Str} {pos : Pos} (hN : X.N[i]? = some x) (hv : Vis X.env.scope x) (hd : (x == ("__debug__" : Str)) = false := by decide) (hcd : (x == ("__classdict__" : Str)) = false := by decide) : PE X (.Name x pos) (tVar i) := by
  intro pins s σ H Q I h
  obtain ⟨v, e, h⟩ := h
  obtain ⟨m, hn, hl⟩ := I.loc
  obtain ⟨u, r, l⟩ := hl i x v hN e hv
  have fin : EP X pins σ Q u s := ⟨v, H, I, r, h⟩
  rcases l with ⟨hk, hm⟩ | ⟨hk, c, hc, hcell⟩
  · exact wpAny_Name (wpAny_loadName_local I.ok.kind hk hn hm fin) hd
  · rcases hk with hk | hk
    · exact wpAny_Name (wpAny_loadName_cell I.ok.kind hk hc hcell fin) hd
    · exact wpAny_Name (wpAny_loadName_free I.ok.kind hk hc hcell fin hcd) hd
theorem pe_int {i j pos} : PE X (.Constant (.int i) j pos) (tC (.int i)) := fun _ _ _ H _ I h => wpAny_Constant_int ⟨.int i, H, I.tok _, ⟨_, rfl⟩, h⟩
theorem pe_bl {b j pos} : PE X (.Constant (.bool b) j pos) (tC (.bl b)) := fun _ _ _ H _ I h => Constant_bool ⟨.bl b, H, I, rfl, h⟩
theorem pe_non {j pos} : PE X (.Constant .none j pos) (tC .non) := fun _ _ _ H _ I h => Constant_none ⟨.non, H, I, rfl, h⟩
theorem pe_str {x j pos} : PE X (.Constant (.str x) j pos) (tC (.str x)) := fun _ _ _ H _ I h => Calls.Constant_str ⟨.str x, H, I.tok _, ⟨_, rfl⟩, h⟩
def Gl (X : Cx) (x : Str) : Prop := X.env.kindOf x = some .globalImplicit
theorem ld_glob {E : Value → Shared → Prop} {pins : List (Addr × Obj)} {s : Shared} {σ : St} {H : Hp} {x : Str} {u : Value} {pos : Pos} {Q : Value → Shared → Prop} (I : Inv X pins σ H s) (hg : Gl X x) (hm : X.mg x = some u) (h : Q u s)
    (hd : (x == ("__debug__" : Str)) = false := by decide) : wpAny (model X.prog X.w) X.A (eval (.Name x pos) X.env) Q E s :=
  Calls.Name_function_global I.ok.kind hg (Calls.loadGlobal_global (by rw [I.ok.glob]; exact I.mod.glob.keeps I.bk) hm h) hd
theorem ld_blt {E : Value → Shared → Prop} {pins : List (Addr × Obj)} {s : Shared} {σ : St} {H : Hp} {x : Str} {u : Value} {pos : Pos} {Q : Value → Shared → Prop} (I : Inv X pins σ H s) (hg : Gl X x) (hm : X.mg x = none) (hv : bootBuiltins x = some u) (h : Q u s)
    (hn : x ≠ "__name__" := by decide) (hd : (x == ("__debug__" : Str)) = false := by decide) : wpAny (model X.prog X.w) X.A (eval (.Name x pos) X.env) Q E s := by
  obtain ⟨mb, h1, h2⟩ := I.mod.blt
  exact Calls.Name_function_global I.ok.kind hg (Calls.loadGlobal_builtin (by rw [I.ok.glob]; exact I.mod.glob.keeps I.bk) hm (by rw [I.ok.blt]; exact h1.keeps I.bk) ((h2 x hn).trans hv) h) hd
theorem pe_glob {x : Str} {v : V} {u : Value} {pos : Pos} (hg : Gl X x) (hm : X.mg x = some u) (r : RelV v u) (hd : (x == ("__debug__" : Str)) = false := by decide) : PE X (.Name x pos) (tC v) :=
  fun _ _ _ H _ I h => ld_glob I hg hm ⟨v, H, I, r, h⟩ hd
theorem pe_bltn {x : Str} {v : V} {u : Value} {pos : Pos} (hg : Gl X x) (hm : X.mg x = none) (hv : bootBuiltins x = some u) (r : RelV v u) (hn : x ≠ "__name__" := by decide) (hd : (x == ("__debug__" : Str)) = false := by decide) : PE X (.Name x pos) (tC v) :=
  fun _ _ _ H _ I h => ld_blt I hg hm hv ⟨v, H, I, r, h⟩ hn hd
variable {a b : Expr} {ta tb : TE} {pos : Pos}
def PC (X : Cx) (op : CmpOp) (a b : Expr) (t : TE) : Prop :=
  ∀ (pins : List (Addr × Obj)) (s : Shared) (σ : St) (H : Hp) (Q : VK), Inv X pins σ H s → t σ H Q →
    wpAny (model X.prog X.w) X.A (eval a X.env) (fun v s₁ => wpAny (model X.prog X.w) X.A (eval b X.env) (fun u s₂ => wpAny (model X.prog X.w) X.A (compareOp op v u) (EP X pins σ Q) X.xe s₂) X.xe s₁) X.xe s
theorem nobehind (b : Expr) {op : CmpOp} (h : op ≠ .In) (h2 : op ≠ .NotIn) : behindInMarks op b = false := by
  have e1 : (op == CmpOp.In) = false := by cases op <;> first | rfl | exact absurd rfl h
  have e2 : (op == CmpOp.NotIn) = false := by cases op <;> first | rfl | exact absurd rfl h2
  cases b <;> simp [behindInMarks, e1, e2]
def tB (t : TE) : TT := fun σ H Q => t σ H fun x H1 => ∃ c, x = .bl c ∧ Q c H1
theorem pt_cmp {op : CmpOp} {t : TE} (h : PC X op a b t) (h1 : behindInMarks op b = false := by first | exact nobehind _ (by decide) (by decide) | rfl) : PT X (.Compare a [op] [b] pos) (tB t) := by
  intro pins s σ H Q I hw
  refine wpAny_isTrue_Compare1 (thn (h pins s σ H _ I hw) fun v s1 h1 => thn h1 fun u s2 h2 => thn h2 fun c s3 ⟨x, H1, I1, r1, q1⟩ => ?_) h1
  obtain ⟨d, rfl, q⟩ := q1
  cases r1
  exact wpAny_truthy_bool ⟨H1, I1, q⟩
theorem pt_val {e : Expr} {t : TE} (h : PE X e t) (he : ∀ whole, isTrue e X.env whole = (do let v ← whole; standAt e.pos; holding [v] (truthy v)) := by intro _; rfl) : PT X e (tB t) := by
  intro pins s σ H Q I hw
  refine isTrue_plain (thn (h pins s σ H _ I hw) fun v s1 ⟨x, H1, I1, r1, q1⟩ => ?_) (he _)
  obtain ⟨d, rfl, q⟩ := q1
  cases r1
  exact wpAny_truthy_bool ⟨H1, I1, q⟩
variable {tA tB' : TT} {rest : List Expr}
def tAnd (t u : TT) : TT := fun σ H Q => t σ H fun c H1 => if c = true then u σ H1 Q else Q false H1
def tOr (t u : TT) : TT := fun σ H Q => t σ H fun c H1 => if c = true then Q true H1 else u σ H1 Q
def tNot (t : TT) : TT := fun σ H Q => t σ H fun c H1 => Q (!c) H1
theorem pw_and1 (ha : PT X a tA) : PW X (.BoolOp .And [a] pos) tA := by
  intro wh pins s σ H Q I h
  refine isTrue_and (thn (ha pins s σ H Q I h) fun c s1 e => ?_)
  cases c with
  | true => exact isTrue_and_nil e
  | false => exact e
theorem pw_or1 (ha : PT X a tA) : PW X (.BoolOp .Or [a] pos) tA := by
  intro wh pins s σ H Q I h
  refine isTrue_or (thn (ha pins s σ H Q I h) fun c s1 e => ?_)
  cases c with
  | false => exact isTrue_or_nil e
  | true => exact e
theorem pw_and (ha : PT X a tA) (hb : PW X (.BoolOp .And (b :: rest) pos) tB') : PW X (.BoolOp .And (a :: b :: rest) pos) (tAnd tA tB') := by
  intro wh pins s σ H Q I h
  refine isTrue_and (thn (ha pins s σ H _ I h) fun c s1 ⟨H1, I1, q1⟩ => ?_)
  cases c with
  | true => exact hb wh pins s1 σ H1 Q I1 q1
  | false => exact ⟨H1, I1, q1⟩
theorem pw_or (ha : PT X a tA) (hb : PW X (.BoolOp .Or (b :: rest) pos) tB') : PW X (.BoolOp .Or (a :: b :: rest) pos) (tOr tA tB') := by
  intro wh pins s σ H Q I h
  refine isTrue_or (thn (ha pins s σ H _ I h) fun c s1 ⟨H1, I1, q1⟩ => ?_)
  cases c with
  | true => exact ⟨H1, I1, q1⟩
  | false => exact hb wh pins s1 σ H1 Q I1 q1
theorem pt_not (ha : PT X a tA) : PT X (.UnaryOp .Not a pos) (tNot tA) := by
  intro pins s σ H Q I h
  exact isTrue_not (ha pins s σ H (fun c H1 => Q (!c) H1) I h)
def tAndV (ta tb : TE) : TE := fun σ H Q => ta σ H fun x H1 => ∃ c, x = .bl c ∧ if c = true then tb σ H1 Q else Q (.bl false) H1
def tOrV (ta tb : TE) : TE := fun σ H Q => ta σ H fun x H1 => ∃ c, x = .bl c ∧ if c = true then Q (.bl true) H1 else tb σ H1 Q
theorem pe_one {op} {t : TE} (h : PE X a t) : PE X (.BoolOp op [a] pos) t := fun pins s σ H Q I hw => BoolOp_one (h pins s σ H Q I hw)
theorem pe_and (ha : PE X a ta) (hb : PE X (.BoolOp .And (b :: rest) pos) tb) : PE X (.BoolOp .And (a :: b :: rest) pos) (tAndV ta tb) := by
  intro pins s σ H Q I h
  refine BoolOp_and (thn (ha pins s σ H _ I h) fun v s1 ⟨x, H1, I1, r1, q1⟩ => ?_)
  obtain ⟨c, rfl, q1⟩ := q1
  cases r1
  refine wpAny_truthy_bool ?_
  cases c with
  | true => exact hb pins s1 σ H1 Q I1 q1
  | false => exact ⟨.bl false, H1, I1, rfl, q1⟩
theorem pe_or (ha : PE X a ta) (hb : PE X (.BoolOp .Or (b :: rest) pos) tb) : PE X (.BoolOp .Or (a :: b :: rest) pos) (tOrV ta tb) := by
  intro pins s σ H Q I h
  refine BoolOp_or (thn (ha pins s σ H _ I h) fun v s1 ⟨x, H1, I1, r1, q1⟩ => ?_)
  obtain ⟨c, rfl, q1⟩ := q1
  cases r1
  refine wpAny_truthy_bool ?_
  cases c with
  | false => exact hb pins s1 σ H1 Q I1 q1
  | true => exact ⟨.bl true, H1, I1, rfl, q1⟩
def tIf (t : TT) (ta tb : TE) : TE := fun σ H Q => t σ H fun c H1 => if c = true then ta σ H1 Q else tb σ H1 Q
theorem pe_ifExp {c : Expr} (hc : PT X c tA) (ha : PE X a ta) (hb : PE X b tb) : PE X (.IfExp c a b pos) (tIf tA ta tb) := by
  intro pins s σ H Q I h
  refine wpAny_IfExp (thn (hc pins s σ H _ I h) fun d s1 ⟨H1, I1, q1⟩ => ?_)
  cases d with
  | true => exact ha pins s1 σ H1 Q I1 q1
  | false => exact hb pins s1 σ H1 Q I1 q1
end
end L2
namespace L2
open PySem PySem.Spec PyProof.Rows
def SqL (K : PySem.W.Frag) (H : Hp) (a : Addr) (xs : List V) : Prop :=
  Rd H a (.lst xs) ∨
    ∃ (o : Obj) (its : Array Value) (n : Nat), K.lookup a = some o ∧ o.cls = .type "list" ∧ o.dict = none ∧ o.data = .seq its n ∧ its.size ≤ sizeLine ∧ Vals xs its.toList
def SqT (K : PySem.W.Frag) (H : Hp) (a : Addr) (xs : List V) : Prop :=
  Rd H a (.tup xs) ∨
    ∃ (o : Obj) (its : Array Value) (n : Nat), K.lookup a = some o ∧ o.cls = .type "tuple" ∧ o.data = .seq its n ∧ its.size ≤ sizeLine ∧ Vals xs its.toList
def absV : Value → Option V
  | .none => some .non
  | .bool b => some (.bl b)
  | .int i _ => some (.int i)
  | .str x _ => some (.str x)
  | .bytes b _ => some (.byt b)
  | .float b _ => some (.flt b)
  | .ref a => some (.ref a)
  | .type n => some (.ty n)
  | _ => none
theorem RelV.abs {x : V} {u : Value} (r : RelV x u) : absV u = some x := by
  cases x with
  | non => cases r; rfl
  | bl _ => cases r; rfl
  | int _ => obtain ⟨t, rfl⟩ := r; rfl
  | str _ => obtain ⟨t, rfl⟩ := r; rfl
  | byt _ => obtain ⟨t, rfl⟩ := r; rfl
  | flt _ => obtain ⟨t, rfl⟩ := r; rfl
  | ref _ => cases r; rfl
  | ty _ => cases r; rfl
theorem RelV.inj {x y : V} {u : Value} (r : RelV x u) (q : RelV y u) : x = y := Option.some.inj (r.abs.symm.trans q.abs)
theorem Vals.inj : ∀ {xs ys : List V} {us : List Value}, Vals xs us → Vals ys us → xs = ys
  | _, _, _, .nil, .nil => rfl
  | _, _, _, .cons r t, .cons r' t' => by rw [r.inj r', Vals.inj t t']
section
variable {X : Cx} {pins : List (Addr × Obj)} {σ : St} {H : Hp} {s : Shared} {a : Addr} {xs ys : List V}
theorem SqL.of {K : PySem.W.Frag} (h : H a = some (.lst xs)) : SqL K H a xs := .inl (.inl h)
theorem SqT.of {K : PySem.W.Frag} (h : H a = some (.tup xs)) : SqT K H a xs := .inl (.inl h)
theorem Inv.list (I : Inv X pins σ H s) (h : SqL X.K H a xs) : ∃ its : List Value, Vals xs its ∧ PlainL s.heap a its.toArray ∧ xs.length ≤ sizeLine := by
  rcases h with h | ⟨o, its, n, hk, hc, hd, hs, hz, r⟩
  · obtain ⟨z, its, n, r, e⟩ := h.ok I.hok
    exact ⟨its, r, ⟨_, n, e, rfl, rfl, rfl⟩, z⟩
  · refine ⟨its.toList, r, ⟨o, n, I.kIn a o hk, hc, hd, by simpa using hs⟩, ?_⟩
    have e := r.length
    simp only [Array.length_toList] at e
    omega
theorem Inv.tuple (I : Inv X pins σ H s) (h : SqT X.K H a xs) : ∃ its : List Value, Vals xs its ∧ IsTup s.heap a its.toArray ∧ xs.length ≤ sizeLine := by
  rcases h with h | ⟨o, its, n, hk, hc, hs, hz, r⟩
  · obtain ⟨z, its, r, p⟩ := h.ok I.hok
    exact ⟨its, r, p, z⟩
  · refine ⟨its.toList, r, ⟨o, I.kIn a o hk, hc, n, by simpa using hs⟩, ?_⟩
    have e := r.length
    simp only [Array.length_toList] at e
    omega
theorem Inv.list_inj (I : Inv X pins σ H s) (h : SqL X.K H a xs) (h' : SqL X.K H a ys) : xs = ys := by
  obtain ⟨its, r, ⟨o, n, e, _, _, d⟩, _⟩ := I.list h
  obtain ⟨its', r', ⟨o', n', e', _, _, d'⟩, _⟩ := I.list h'
  rw [e] at e'; cases e'
  rw [d] at d'
  injection d' with d1 _
  have : its = its' := by simpa using congrArg Array.toList d1
  subst this
  exact r.inj r'
theorem Inv.tuple_inj (I : Inv X pins σ H s) (h : SqT X.K H a xs) (h' : SqT X.K H a ys) : xs = ys := by
  obtain ⟨its, r, ⟨o, e, _, n, d⟩, _⟩ := I.tuple h
  obtain ⟨its', r', ⟨o', e', _, n', d'⟩, _⟩ := I.tuple h'
  rw [e] at e'; cases e'
  rw [d] at d'
  injection d' with d1 _
  have : its = its' := by simpa using congrArg Array.toList d1
  subst this
  exact r.inj r'
end
abbrev Cx.wish (X : Cx) (E : Value → Shared → Prop) : Cx := { X with xe := E }
abbrev Cx.nox (X : Cx) : Cx := X.wish fun _ _ => False
theorem Cx.Ok.wish {X : Cx} (ok : X.Ok) (E : Value → Shared → Prop) : (X.wish E).Ok :=
  ⟨ok.mod, ok.kind, ok.glob, ok.blt, ok.above, ok.inj, ok.has, ok.cab, ok.hd, ok.frames, ok.stk, ok.exf, ok.bs, ok.bsz, ok.noex, ok.exfs, ok.funs, ok.frf⟩
theorem Cx.Ok.unwish {X : Cx} {E : Value → Shared → Prop} (ok : (X.wish E).Ok) : X.Ok :=
  ⟨ok.mod, ok.kind, ok.glob, ok.blt, ok.above, ok.inj, ok.has, ok.cab, ok.hd, ok.frames, ok.stk, ok.exf, ok.bs, ok.bsz, ok.noex, ok.exfs, ok.funs, ok.frf⟩
section
variable {X : Cx} {pins : List (Addr × Obj)} {σ : St} {H : Hp} {s : Shared} {E : Value → Shared → Prop}
theorem Inv.wish (I : Inv X pins σ H s) (E : Value → Shared → Prop) : Inv (X.wish E) pins σ H s := ⟨I.ok.wish E, I.os, I.bare, I.base, I.loc, I.cell, I.free, I.freeC, I.pin, I.hok, I.len⟩
theorem Inv.unwish (I : Inv (X.wish E) pins σ H s) : Inv X pins σ H s := ⟨I.ok.unwish, I.os, I.bare, I.base, I.loc, I.cell, I.free, I.freeC, I.pin, I.hok, I.len⟩
theorem SP.unwish {D : Ends} {f : Flow} {s' : Shared} (h : SP (X.wish E) pins D f s') : SP X pins D f s' := by
  cases f with
  | next => obtain ⟨σ', H', I, q⟩ := h; exact ⟨σ', H', I.unwish, q⟩
  | brk => obtain ⟨σ', H', I, q⟩ := h; exact ⟨σ', H', I.unwish, q⟩
  | cont => obtain ⟨σ', H', I, q⟩ := h; exact ⟨σ', H', I.unwish, q⟩
  | ret u => obtain ⟨v, σ', H', I, r, q⟩ := h; exact ⟨v, σ', H', I.unwish, r, q⟩
theorem PE.nox {e : Expr} {t : TE} (h : PE X.nox e t) : PE X e t := fun pins s σ H Q I hw =>
  wpAny_mono (h pins s σ H Q (I.wish _) hw) (fun _ _ ⟨v, H', I', r, q⟩ => ⟨v, H', I'.unwish, r, q⟩) fun _ _ z => False.elim z
theorem PT.nox {e : Expr} {t : TT} (h : PT X.nox e t) : PT X e t := fun pins s σ H Q I hw =>
  wpAny_mono (h pins s σ H Q (I.wish _) hw) (fun _ _ ⟨H', I', q⟩ => ⟨H', I'.unwish, q⟩) fun _ _ z => False.elim z
theorem PSs.nox {st : List Stmt} {t : TS} (h : PSs X.nox st t) : PSs X st t := fun pins s σ H D I hw =>
  wpAny_mono (h pins s σ H D (I.wish _) hw) (fun _ _ q => q.unwish) fun _ _ z => False.elim z
end
section
variable {X : Cx} {st : Stmt} {rest : List Stmt} {t u : TS} {e : Expr} {te : TE} {pos : Pos}
def tNext : TS := fun D σ H => D.nx σ H
def tSeq (t u : TS) : TS := fun D σ H => t { D with nx := u D } σ H
theorem pss_nil : PSs X [] tNext := fun _ _ σ H _ I h => wpAny_execs_nil ⟨σ, H, I, h⟩
theorem pss_cons (h1 : PS X st t) (h2 : PSs X rest u) : PSs X (st :: rest) (tSeq t u) := by
  intro pins s σ H D I h
  refine wpAny_execs_cons (thn (h1 pins s σ H { D with nx := u D } I h) fun f s1 q => ?_)
  cases f with
  | next =>
    obtain ⟨σ', H', I', q⟩ := q
    exact h2 pins s1 σ' H' D I' q
  | ret v => exact q
  | brk => exact q
  | cont => exact q
theorem pss_one (h1 : PS X st t) : PSs X [st] t := by
  intro pins s σ H D I h
  refine wpAny_execs_cons (thn (h1 pins s σ H D I h) fun f s1 q => ?_)
  cases f with
  | next => exact wpAny_execs_nil q
  | ret v => exact q
  | brk => exact q
  | cont => exact q
theorem Inv.quiet {pins : List (Addr × Obj)} {σ : St} {H : Hp} {s : Shared} (I : Inv X pins σ H s) : interactive X.env = false := by simp [interactive, I.ok.kind]
def tDrop (te : TE) : TS := fun D σ H => te σ H fun _ H1 => D.nx σ H1
theorem ps_expr (he : PE X e te) (hs : swapsWith e none pos.line X.env = pure false := by rfl) : PS X (.Expr e pos) (tDrop te) := by
  intro pins s σ H D I h
  exact wpAny_Expr_any (thn (he pins s σ H _ I h) fun v s1 ⟨x, H1, I1, r1, q1⟩ => ⟨σ, H1, I1, q1⟩) I.quiet hs
def tRet (te : TE) : TS := fun D σ H => te σ H D.rt
theorem ps_ret (he : PE X e te) : PS X (.Return (some e) pos) (tRet te) := by
  intro pins s σ H D I h
  exact wpAny_Return_some (thn (he pins s σ H _ I h) fun v s1 ⟨x, H1, I1, r1, q1⟩ => ⟨x, σ, H1, I1, r1, q1⟩)
def tIfS (c : TT) (t u : TS) : TS := fun D σ H => c σ H fun b H1 => if b = true then t D σ H1 else u D σ H1
theorem ps_if {c : Expr} {a b : List Stmt} {tc : TT} (hc : PT X c tc) (ha : PSs X a t) (hb : PSs X b u) : PS X (.If c a b pos) (tIfS tc t u) := by
  intro pins s σ H D I h
  refine wpAny_If (thn (hc pins s σ H _ I h) fun d s1 ⟨H1, I1, q1⟩ => ?_)
  cases d with
  | true => exact ha pins s1 σ H1 D I1 q1
  | false => exact hb pins s1 σ H1 D I1 q1
end
abbrev TG := V → St → Hp → (St → Hp → Prop) → Prop
def PG (X : Cx) (target : Expr) (t : TG) : Prop :=
  ∀ (pins : List (Addr × Obj)) (s : Shared) (σ : St) (H : Hp) (v : V) (u : Value) (Q : St → Hp → Prop), Inv X pins σ H s → RelV v u → t v σ H Q →
    wpAny (model X.prog X.w) X.A (assign target X.env u) (fun _ s' => ∃ σ' H', Inv X pins σ' H' s' ∧ Q σ' H') X.xe s
section
variable {X : Cx} {pos : Pos}
def gName (i : Nat) : TG := fun v σ H Q => Q (σ.set i (some v)) H
theorem pg_name {i : Nat} {x : Str} (hN : X.N.Nodup) (hi : X.N[i]? = some x) (hx : Loc X.env.scope x) (hf : X.fn x = true ∨ X.env.scope.names.lookup x = some .local := by first | exact .inl rfl | exact .inr rfl | assumption) : PG X (.Name x pos) (gName i) := by
  intro pins s σ H v u Q I r h
  exact wpAny_assign_Name (store_ok I hN hi hx r (fun s' I' => ⟨_, H, I', h⟩) hf)
def tAsg (te : TE) (g : TG) : TS := fun D σ H => te σ H fun x H1 => g x σ H1 D.nx
theorem ps_set {i : Nat} {x : Str} {e : Expr} {te : TE} {pos' : Pos} (hN : X.N.Nodup) (hi : X.N[i]? = some x) (hx : Loc X.env.scope x) (he : PE X e te) (hs : swapsWith e (some (.Name x pos')) pos.line X.env = pure false := by rfl) (hf : X.fn x = true ∨ X.env.scope.names.lookup x = some .local := by first | exact .inl rfl | exact .inr rfl | assumption) :
    PS X (.Assign [.Name x pos'] e pos) (tAsg te (gName i)) := by
  intro pins s σ H D I h
  refine wpAny_Assign_Name (thn (he pins s σ H _ I h) fun v s1 ⟨y, H1, I1, r1, q1⟩ => ?_) hs
  exact store_ok I1 hN hi hx r1 (fun s2 I2 => ⟨_, H1, I2, q1⟩) hf
end
section
variable {X : Cx} {pos : Pos}
end
structure It where
  go : Nat → Hp → Prop
  yld : Nat → Hp → V → Hp → Prop
  stop : Nat → Hp → Prop
def FpOk (X : Cx) (pins : List (Addr × Obj)) (H : Hp) (b : Addr) : Prop :=
  H b = none ∧ b ≠ X.env.locals ∧ b ∉ X.fs ∧ (b ∈ X.ex ∨ X.s₀.heap.objs.size ≤ b) ∧ (∀ x c, X.env.cells.lookup x = some c → c ≠ b) ∧ ∀ p ∈ X.pn ++ pins, p.1 ≠ b
theorem Inv.fpOk {X : Cx} {pins : List (Addr × Obj)} {σ : St} {H H' : Hp} {s : Shared} {b : Addr} (I : Inv X pins σ H s) (hb : s.heap.objs.size ≤ b) (hn : H' b = none) : FpOk X pins H' b := by
  refine ⟨hn, Nat.ne_of_gt (Nat.lt_of_lt_of_le I.lt hb), I.nofs hb, .inr (Nat.le_trans I.sz hb), fun x c e z => ?_, fun p hp z => ?_⟩
  · obtain ⟨v, q⟩ := I.cell x c e
    exact absurd (Nat.lt_of_lt_of_le q.lt (by rw [z]; exact hb)) (Nat.lt_irrefl _)
  · exact absurd (Nat.lt_of_lt_of_le (Heap.lt_size (I.pin p hp).1) (by rw [z]; exact hb)) (Nat.lt_irrefl _)
structure Turn (P : Program) (w : World) (K : PySem.W.Frag) (tg : Expr) (J : It) (fp : List Addr) (it : Addr) (tn : Nat → Heap → Prop) : Prop where
  mem : it ∈ fp
  obj : ∀ i h, tn i h → ∀ b ∈ fp, ∃ o, h.get? b = some o ∧ ∀ v, o.data ≠ .cell v
  keep : ∀ i h h', tn i h → (∀ b ∈ fp, ∀ o, h.get? b = some o → h'.get? b = some o) → tn i h'
  item : ∀ (X : Cx), X.prog = P → X.w = w → X.K = K → X.calm = true → ∀ (i : Nat) (pins : List (Addr × Obj)) (s : Shared) (σ : St) (H : Hp) (E : Value → Shared → Prop), Inv X pins σ H s → (∀ b ∈ fp, FpOk X pins H b) → tn i s.heap → J.go i H →
    wpAny (model P w) X.A (pyNext (.ref it)) (fun r s1 => ∃ u, r = some u ∧
      wpAny (model P w) X.A (letOwnedTupleGo tg (.ref it) u) (fun _ s2 => ∃ x H', Inv X pins σ H' s2 ∧ RelV x u ∧ J.yld i H x H' ∧ tn (i + 1) s2.heap ∧ ∀ b ∈ fp, H' b = none) E s1) E s
  done : ∀ (X : Cx), X.prog = P → X.w = w → X.K = K → X.calm = true → ∀ (i : Nat) (pins : List (Addr × Obj)) (s : Shared) (σ : St) (H : Hp) (E : Value → Shared → Prop), Inv X pins σ H s → (∀ b ∈ fp, FpOk X pins H b) → tn i s.heap → J.stop i H →
    wpAny (model P w) X.A (pyNext (.ref it)) (fun r s1 => r = none ∧ Inv X pins σ H s1) E s
  self : ∀ (A : Around) (i : Nat) (s : Shared) (Q : Value → Shared → Prop) (E : Value → Shared → Prop), tn i s.heap → Q (.ref it) s → wpAny (model P w) A (pyIter (.ref it)) Q E s
abbrev TI := St → Hp → (It → Hp → Prop) → Prop
def PIE (X : Cx) (pins : List (Addr × Obj)) (σ : St) (tg : Expr) (R : It → Hp → Prop) (itv : Value) (s2 : Shared) : Prop :=
  ∃ (it : Addr) (fp : List Addr) (tn : Nat → Heap → Prop) (J : It) (H' : Hp), itv = .ref it ∧ Inv X pins σ H' s2 ∧ Turn X.prog X.w X.K tg J fp it tn ∧ tn 0 s2.heap ∧ (∀ b ∈ fp, FpOk X pins H' b) ∧ R J H'
def PI (X : Cx) (tg iter : Expr) (wi : TI) : Prop :=
  ∀ (pins : List (Addr × Obj)) (s : Shared) (σ : St) (H : Hp) (R : It → Hp → Prop), Inv X pins σ H s → wi σ H R →
    wpAny (model X.prog X.w) X.A (eval iter X.env) (fun v s1 => wpAny (model X.prog X.w) X.A (pyIter v) (PIE X pins σ tg R) X.xe s1) X.xe s
theorem go_of {M : Model} {A : Around} {E : Value → Shared → Prop} {s : Shared} {tg : Expr} {it : Addr} {u : Value} {o : Obj} {n : String} {vs : Array Value} {Q : Unit → Shared → Prop} (ho : s.heap.get? it = some o) (hc : o.cls = .type n) (hd : o.data = .fields vs)
    (hn : ["enumerate", "zip", "dict_itemiterator", "dict_reverseitemiterator", "odict_iterator", "itertools.zip_longest", "itertools.pairwise"].contains n = false) (hQ : Q () s) : wpAny M A (letOwnedTupleGo tg (.ref it) u) Q E s := by
  unfold letOwnedTupleGo
  cases tg <;> first
    | exact wpAny_pure hQ
    | (cases u <;> first
        | exact wpAny_pure hQ
        | (refine wpAny_bind (wpAny_load ho ?_)
           rw [hc, hd]
           show wpAny M A (if (["enumerate", "zip", "dict_itemiterator", "dict_reverseitemiterator", "odict_iterator", "itertools.zip_longest", "itertools.pairwise"].contains n && vs[0]? == some (rawInt _)) = true then _ else _) Q E s
           rw [if_neg (by intro h; rw [hn, Bool.false_and] at h; cases h)]
           exact wpAny_pure hQ))
def Itl (K : PySem.W.Frag) (a : Addr) : It :=
  ⟨fun i H => ∃ xs x, SqL K H a xs ∧ xs[i]? = some x, fun i H x H' => H' = H ∧ ∀ xs, SqL K H a xs → xs[i]? = some x, fun i H => ∃ xs, SqL K H a xs ∧ xs.length ≤ i⟩
def Itt (K : PySem.W.Frag) (a : Addr) : It :=
  ⟨fun i H => ∃ xs x, SqT K H a xs ∧ xs[i]? = some x, fun i H x H' => H' = H ∧ ∀ xs, SqT K H a xs → xs[i]? = some x, fun i H => ∃ xs, SqT K H a xs ∧ xs.length ≤ i⟩
def Itr (lo : Int) (n : Nat) : It := ⟨fun i _ => i < n, fun i H x H' => H' = H ∧ x = .int (lo + i), fun i _ => n ≤ i⟩
theorem turn_list {P : Program} {w : World} {K : PySem.W.Frag} {tg : Expr} (a it : Addr) : Turn P w K tg (Itl K a) [it] it (fun i h => h.IsListIter it a i) where
  mem := by simp
  obj := fun i h st b hb => by
    have e : b = it := by simpa using hb
    subst e
    obtain ⟨o, e, c, d⟩ := st
    exact ⟨o, e, fun v z => by rw [d] at z; cases z⟩
  keep := fun i h h' st k => st.at fun o e => k it (by simp) o e
  item := by
    intro X hP hw hK hc i pins s σ H E I hf st hg
    subst hP hw hK
    obtain ⟨xs, x, hq, hx⟩ := hg
    obtain ⟨its, rv, p, hz⟩ := I.list hq
    obtain ⟨u, hu, ru⟩ := rv.get hx
    obtain ⟨f0, f1, f2, f3, f4, f5⟩ := hf it (by simp)
    refine wpAny_pyNext_list_item st p.isList (x := u) (by simpa using hu) fun h' st' sb => ?_
    have I1 : Inv X pins σ H { s with heap := h' } := I.turned (t' := s.toks) (fun b o hb e => (sb.2 b hb).trans e) f0 f1 f3 f4 f5
    obtain ⟨o, e, c, d⟩ := id st'
    exact ⟨u, rfl, go_of (s := { s with heap := h' }) e c d (by decide) ⟨x, H, I1, ru, ⟨rfl, fun ys hy => by rw [I.list_inj hy hq]; exact hx⟩, st', fun b hb => (hf b hb).1⟩⟩
  done := by
    intro X hP hw hK hc i pins s σ H E I hf st hg
    subst hP hw hK
    obtain ⟨xs, hq, hx⟩ := hg
    obtain ⟨its, rv, p, hz⟩ := I.list hq
    obtain ⟨f0, f1, f2, f3, f4, f5⟩ := hf it (by simp)
    have hl := rv.length
    exact wpAny_pyNext_list_end (I.ok.hd hc) st p.isList (by simp; omega) fun h' eb => ⟨rfl, I.turned (t' := s.toks) (fun b o hb e => eb b o hb e) f0 f1 f3 f4 f5⟩
  self := fun _ _ _ _ _ st h => wpAny_pyIter_listiter st h
theorem turn_tuple {P : Program} {w : World} {K : PySem.W.Frag} {tg : Expr} (a it : Addr) : Turn P w K tg (Itt K a) [it] it (fun i h => h.IsTupleIter it a i) where
  mem := by simp
  obj := fun i h st b hb => by
    have e : b = it := by simpa using hb
    subst e
    obtain ⟨o, e, c, d⟩ := st
    exact ⟨o, e, fun v z => by rw [d] at z; cases z⟩
  keep := fun i h h' st k => st.at fun o e => k it (by simp) o e
  item := by
    intro X hP hw hK hc i pins s σ H E I hf st hg
    subst hP hw hK
    obtain ⟨xs, x, hq, hx⟩ := hg
    obtain ⟨its, rv, p, hz⟩ := I.tuple hq
    obtain ⟨u, hu, ru⟩ := rv.get hx
    obtain ⟨f0, f1, f2, f3, f4, f5⟩ := hf it (by simp)
    refine wpAny_pyNext_tuple_item st (show s.heap.IsTuple a its.toArray from p) (x := u) (by simpa using hu) fun h' st' sb => ?_
    have I1 : Inv X pins σ H { s with heap := h' } := I.turned (t' := s.toks) (fun b o hb e => (sb.2 b hb).trans e) f0 f1 f3 f4 f5
    obtain ⟨o, e, c, d⟩ := id st'
    exact ⟨u, rfl, go_of (s := { s with heap := h' }) e c d (by decide) ⟨x, H, I1, ru, ⟨rfl, fun ys hy => by rw [I.tuple_inj hy hq]; exact hx⟩, st', fun b hb => (hf b hb).1⟩⟩
  done := by
    intro X hP hw hK hc i pins s σ H E I hf st hg
    subst hP hw hK
    obtain ⟨xs, hq, hx⟩ := hg
    obtain ⟨its, rv, p, hz⟩ := I.tuple hq
    obtain ⟨f0, f1, f2, f3, f4, f5⟩ := hf it (by simp)
    have hl := rv.length
    exact wpAny_pyNext_tuple_end (I.ok.hd hc) st (show s.heap.IsTuple a its.toArray from p) (by simp; omega) fun h' eb => ⟨rfl, I.turned (t' := s.toks) (fun b o hb e => eb b o hb e) f0 f1 f3 f4 f5⟩
  self := fun _ _ _ _ _ st h => wpAny_pyIter_tupleiter st h
theorem turn_range {P : Program} {w : World} {K : PySem.W.Frag} {tg : Expr} (it : Addr) (lo : Int) (n : Nat) : Turn P w K tg (Itr lo n) [it] it (fun i h => IsRangeIter h it (lo + (i : Nat) * 1) ((n : Int) - (i : Nat)) 1) where
  mem := by simp
  obj := fun i h st b hb => by
    have e : b = it := by simpa using hb
    subst e
    exact ⟨_, st, fun v z => by
      have z' : Data.fields _ = Data.cell v := z
      cases z'⟩
  keep := fun i h h' st k => k it (by simp) _ st
  item := by
    intro X hP hw hK hc i pins s σ H E I hf st hg
    subst hP hw hK
    obtain ⟨f0, f1, f2, f3, f4, f5⟩ := hf it (by simp)
    have W := Walks.range (prog := X.prog) (w := X.w) (I.ok.hd hc) it lo 1 n
    refine W.item i s _ _ hg st fun v h' tk hv st' kk => ?_
    obtain ⟨t, rfl⟩ := hv
    have I1 : Inv X pins σ H { s with heap := h', toks := tk } := I.turned (fun b o hb e => kk b o (by simpa using hb) e) f0 f1 f3 f4 f5
    refine ⟨_, rfl, go_of (s := { s with heap := h', toks := tk }) (n := "range_iterator") st' rfl rfl (by decide) ⟨.int (lo + i), H, I1, ⟨t, ?_⟩, ⟨rfl, rfl⟩, st', fun b hb => (hf b hb).1⟩⟩
    rw [Int.mul_one]
  done := by
    intro X hP hw hK hc i pins s σ H E I hf st hg
    subst hP hw hK
    obtain ⟨f0, f1, f2, f3, f4, f5⟩ := hf it (by simp)
    exact wpAny_pyNext_range_end (I.ok.hd hc) st (by have : n ≤ i := hg; omega) fun h' eb => ⟨rfl, I.turned (t' := s.toks) (fun b o hb e => eb b o hb e) f0 f1 f3 f4 f5⟩
  self := fun _ _ _ _ _ st h => wpAny_pyIter_rangeiter st h
end L2
namespace L2
open PySem PySem.Spec PyProof.Rows
section
variable {X : Cx} {tg : Expr}
def iList (K : PySem.W.Frag) (tl : TE) : TI := fun σ H R => tl σ H fun x H1 => ∃ a, x = .ref a ∧ (∃ xs, SqL K H1 a xs) ∧ R (Itl K a) H1
def iTup (K : PySem.W.Frag) (tl : TE) : TI := fun σ H R => tl σ H fun x H1 => ∃ a, x = .ref a ∧ (∃ xs, SqT K H1 a xs) ∧ R (Itt K a) H1
theorem pi_list {l : Expr} {tl : TE} (hl : PE X l tl) : PI X tg l (iList X.K tl) := by
  intro pins s σ H R I h
  refine thn (hl pins s σ H _ I h) fun v s1 ⟨x, H1, I1, r1, q1⟩ => ?_
  obtain ⟨a, e, ⟨xs, hq⟩, q⟩ := q1
  subst e
  cases r1
  obtain ⟨its, rv, p, hz⟩ := I1.list hq
  refine wpAny_pyIter_list p.isList ?_
  refine ⟨s1.heap.objs.size, [s1.heap.objs.size], _, _, H1, rfl, I1.kept (t' := s1.toks) fun b o e => Heap.get?_push_of_some _ e, turn_list a _, ⟨_, Heap.get?_push_size _ rfl, rfl, rfl⟩, fun b hb => ?_, q⟩
  have e : b = s1.heap.objs.size := by simpa using hb
  subst e
  exact I1.fpOk (Nat.le_refl _) (I1.hok.fresh (Nat.le_refl _))
theorem pi_tup {l : Expr} {tl : TE} (hl : PE X l tl) : PI X tg l (iTup X.K tl) := by
  intro pins s σ H R I h
  refine thn (hl pins s σ H _ I h) fun v s1 ⟨x, H1, I1, r1, q1⟩ => ?_
  obtain ⟨a, e, ⟨xs, hq⟩, q⟩ := q1
  subst e
  cases r1
  obtain ⟨its, rv, p, hz⟩ := I1.tuple hq
  refine wpAny_pyIter_tuple (show s1.heap.IsTuple a its.toArray from p) ?_
  refine ⟨s1.heap.objs.size, [s1.heap.objs.size], _, _, H1, rfl, I1.kept (t' := s1.toks) fun b o e => Heap.get?_push_of_some _ e, turn_tuple a _, ⟨_, Heap.get?_push_size _ rfl, rfl, rfl⟩, fun b hb => ?_, q⟩
  have e : b = s1.heap.objs.size := by simpa using hb
  subst e
  exact I1.fpOk (Nat.le_refl _) (I1.hok.fresh (Nat.le_refl _))
theorem range_it {pins : List (Addr × Obj)} {σ : St} {H : Hp} {s : Shared} {R : It → Hp → Prop} {E : Value → Shared → Prop} {lo hi : Int} {t u v : Tok} {tk : Nat} (I : Inv X pins σ H s) (h1 : -(2 ^ 62) ≤ lo) (h2 : lo < 2 ^ 62) (h3 : -(2 ^ 62) ≤ hi) (h4 : hi < 2 ^ 62)
    (q : R (Itr lo (hi - lo).toNat) H) : wpAny (model X.prog X.w) X.A (pyIter (.ref s.heap.objs.size)) (PIE X pins σ tg R) E { s with heap := s.heap.push { cls := .type "range", data := .fields #[.int lo t, .int hi u, .int 1 v] }, toks := tk } := by
  refine wpAny_pyIter_range (IsRange.new ..) (small_one h1 h2 h3 h4) ?_
  have I1 : Inv X pins σ H { s with heap := s.heap.push { cls := .type "range", data := .fields #[.int lo t, .int hi u, .int 1 v] }, toks := tk } := I.kept fun b o e => Heap.get?_push_of_some _ e
  refine ⟨(s.heap.push { cls := .type "range", data := .fields #[.int lo t, .int hi u, .int 1 v] }).objs.size, [(s.heap.push { cls := .type "range", data := .fields #[.int lo t, .int hi u, .int 1 v] }).objs.size], _, _, H, rfl,
    I1.kept (t' := tk) fun b o e => Heap.get?_push_of_some _ e, turn_range _ lo (hi - lo).toNat, ?_, fun b hb => ?_, q⟩
  · have e1 : lo + ((0 : Nat) : Int) * 1 = lo := by simp
    have e2 : (((hi - lo).toNat : Nat) : Int) - ((0 : Nat) : Int) = Builtin.Range.rangeSize lo hi 1 := by rw [rangeSize_one]; split <;> omega
    show IsRangeIter _ _ (lo + ((0 : Nat) : Int) * 1) ((((hi - lo).toNat : Nat) : Int) - ((0 : Nat) : Int)) 1
    rw [e1, e2]
    exact Heap.get?_push_size _ rfl
  · have e : b = (s.heap.push { cls := .type "range", data := .fields #[.int lo t, .int hi u, .int 1 v] }).objs.size := by simpa using hb
    subst e
    exact I1.fpOk (Nat.le_refl _) (I1.hok.fresh (Nat.le_refl _))
def iRng1 (ta : TA) : TI := fun σ H R => ta σ H fun vs H1 => ∃ j : Int, vs = [.int j] ∧ -(2 ^ 62) ≤ j ∧ j < 2 ^ 62 ∧ R (Itr 0 j.toNat) H1
theorem pi_range1 {a : Expr} {ta : TA} {p pos : Pos} (hg : Gl X "range") (hm : X.mg "range" = none) (ha : PA X [a] ta) (hs : starEach [a] X.env = [(false, eval a X.env)] := by rfl) : PI X tg (.Call (.Name "range" p) [a] [] pos) (iRng1 ta) := by
  intro pins s σ H R I h
  refine Call_ (ld_blt I hg hm boot_range (PyProof.Rows.callWith_type1 (thn (ha pos pins s σ H _ I h) fun us s1 ⟨vs, H1, I1, r1, q1⟩ => ?_) hs rfl))
  obtain ⟨j, e, q1, q2, q⟩ := q1
  subst e
  cases r1 with
  | cons r rr =>
    cases rr
    obtain ⟨t, rfl⟩ := r
    exact call_range_1 (range_it I1 (by omega) (by omega) q1 q2 (by simpa using q))
def tFor (wi : TI) (g : TG) (tb : TS) : TS := fun D σ H => wi σ H fun J H1 => ∃ W : Nat → Nat → St → Hp → Prop, (∃ m, W 0 m σ H1) ∧ ∀ i m σ H, W i m σ H →
  (J.stop i H ∧ D.nx σ H) ∨ (J.go i H ∧ ∃ N : St → Hp → Prop, (∀ σ' H', N σ' H' → ∃ m', m' < m ∧ W (i + 1) m' σ' H') ∧ ∀ x H', J.yld i H x H' → g x σ H' fun σ2 H2 => tb { D with nx := N, ct := N, bk := D.nx } σ2 H2)
def pinsAt (fp : List Addr) (h : Heap) : List (Addr × Obj) := fp.filterMap fun b => (h.get? b).map fun o => (b, o)
theorem mem_pinsAt {fp : List Addr} {h : Heap} {b : Addr} {o : Obj} (hb : b ∈ fp) (e : h.get? b = some o) : (b, o) ∈ pinsAt fp h := List.mem_filterMap.mpr ⟨b, hb, by rw [e]; rfl⟩
theorem of_pinsAt {fp : List Addr} {h : Heap} {p : Addr × Obj} (hp : p ∈ pinsAt fp h) : p.1 ∈ fp ∧ h.get? p.1 = some p.2 := by
  obtain ⟨b, hb, e⟩ := List.mem_filterMap.mp hp
  cases q : h.get? b with
  | none => rw [q] at e; cases e
  | some o =>
    rw [q] at e
    have e' : (b, o) = p := Option.some.inj e
    subst e'
    exact ⟨hb, q⟩
theorem Inv.pinned {pins : List (Addr × Obj)} {σ : St} {H : Hp} {s : Shared} {fp : List Addr} (I : Inv X pins σ H s) (hf : ∀ b ∈ fp, FpOk X pins H b) (ho : ∀ b ∈ fp, ∃ o, s.heap.get? b = some o ∧ ∀ v, o.data ≠ .cell v) : Inv X (pins ++ pinsAt fp s.heap) σ H s :=
  I.pins_of fun p hp => (List.mem_append.mp hp).elim (fun z => I.pin p (List.mem_append_right _ z)) fun z => by
    obtain ⟨hb, e⟩ := of_pinsAt z
    obtain ⟨f0, f1, f2, _⟩ := hf p.1 hb
    obtain ⟨o, e', d⟩ := ho p.1 hb
    rw [e] at e'; cases e'
    exact ⟨e, f0, f1, f2, d⟩
theorem Inv.unpinned {pins pl : List (Addr × Obj)} {σ : St} {H : Hp} {s : Shared} (I : Inv X (pins ++ pl) σ H s) : Inv X pins σ H s := I.pins_of fun p hp => I.pin p (List.mem_append_right _ (List.mem_append_left _ hp))
theorem ps_for {iter : Expr} {body : List Stmt} {wi : TI} {g : TG} {tb : TS} {pos : Pos} (hp : PassesOwn (model X.prog X.w) X.A X.env X.xe) (hc : X.calm = true) (hi : PI X tg iter wi) (hg : PG X tg g) (hb : PSs X body tb)
    (hs : ∀ x, foldedSetIterable iter X.env x = pure x := by intro _; rfl) : PS X (.For tg iter body [] pos) (tFor wi g tb) := by
  intro pins s σ H D I h
  refine wpAny_For (thn (hi pins s σ H _ I h) fun v s1 h1 => thn h1 fun itv s2 h2 => ?_) hs
  obtain ⟨it, fp, tn, J, H2, e, I2, T, st2, f2, W, ⟨m0, w0⟩, turn⟩ := h2
  subst e
  have stat : ∀ {H' : Hp}, (∀ b ∈ fp, H' b = none) → ∀ b ∈ fp, FpOk X pins H' b := fun hn b hb => ⟨hn b hb, (f2 b hb).2⟩
  refine codeAny_forLoop_any (fun n s' => ∃ i σ' H', Inv X pins σ' H' s' ∧ tn i s'.heap ∧ (∀ b ∈ fp, H' b = none) ∧ W i n σ' H') ?_ m0 ⟨0, σ, H2, I2, st2, fun b hb => (f2 b hb).1, w0⟩
  rintro n s3 ⟨i, σ3, H3, I3, st3, fr3, w3⟩
  rcases turn i n σ3 H3 w3 with ⟨stop, qn⟩ | ⟨go, N, hN, step⟩
  · refine wpAny_passesOwn hp (thn (T.done X rfl rfl rfl hc i pins s3 σ3 H3 X.xe I3 (stat fr3) st3 stop) fun r s4 ⟨hr, I4⟩ => ?_)
    subst hr
    exact wpAny_execs_nil ⟨σ3, H3, I4, qn⟩
  · refine wpAny_passesOwn hp (thn (T.item X rfl rfl rfl hc i pins s3 σ3 H3 X.xe I3 (stat fr3) st3 go) fun r s4 ⟨u, hr, h4⟩ => ?_)
    subst hr
    refine wpAny_passesOwn hp (thn h4 fun _ s5 ⟨x, H5, I5, r5, y5, st5, fr5⟩ => ?_)
    have I5' := I5.pinned (stat fr5) (T.obj _ _ st5)
    refine wpAny_passesOwn hp (thn (hg _ s5 σ3 H5 x u _ I5' r5 (step x H5 y5)) fun _ s6 ⟨σ6, H6, I6, q6⟩ => ?_)
    refine wpAny_passesOwn hp (thn (hb _ s6 σ6 H6 _ I6 q6) fun f s7 q7 => ?_)
    have again : ∀ {σ7 : St} {H7 : Hp}, Inv X (pins ++ pinsAt fp s5.heap) σ7 H7 s7 → N σ7 H7 → ∃ m, m < n ∧ ∃ i σ' H', Inv X pins σ' H' s7 ∧ tn i s7.heap ∧ (∀ b ∈ fp, H' b = none) ∧ W i m σ' H' := fun {σ7 H7} I7 n7 => by
      obtain ⟨m', hm, w7⟩ := hN σ7 H7 n7
      refine ⟨m', hm, i + 1, σ7, H7, I7.unpinned, T.keep _ _ _ st5 fun b hb o e => (I7.pin (b, o) (List.mem_append_right _ (List.mem_append_right _ (mem_pinsAt hb e)))).1, fun b hb => ?_, w7⟩
      obtain ⟨o, e, d⟩ := T.obj _ _ st5 b hb
      exact (I7.pin (b, o) (List.mem_append_right _ (List.mem_append_right _ (mem_pinsAt hb e)))).2.1
    cases f with
    | next => obtain ⟨σ7, H7, I7, n7⟩ := q7; exact again I7 n7
    | cont => obtain ⟨σ7, H7, I7, n7⟩ := q7; exact again I7 n7
    | brk => obtain ⟨σ7, H7, I7, q7⟩ := q7; exact ⟨σ7, H7, I7.unpinned, q7⟩
    | ret v => obtain ⟨x7, σ7, H7, I7, r7, q7⟩ := q7; exact ⟨x7, σ7, H7, I7.unpinned, r7, q7⟩
end
theorem for_list {K : PySem.W.Frag} {a : Addr} {xs : List V} {g : TG} {tb : TS} {D : Ends} {σ : St} {H : Hp} (Pv : Nat → St → Hp → Prop) (h0 : Pv 0 σ H) (hl : ∀ i σ H, i ≤ xs.length → Pv i σ H → SqL K H a xs)
    (hs : ∀ i x σ H, xs[i]? = some x → Pv i σ H → g x σ H fun σ2 H2 => tb { D with nx := Pv (i + 1), ct := Pv (i + 1), bk := D.nx } σ2 H2) (hd : ∀ σ H, Pv xs.length σ H → D.nx σ H) :
    ∃ W : Nat → Nat → St → Hp → Prop, (∃ m, W 0 m σ H) ∧ ∀ i m σ H, W i m σ H →
      ((Itl K a).stop i H ∧ D.nx σ H) ∨ ((Itl K a).go i H ∧ ∃ N : St → Hp → Prop, (∀ σ' H', N σ' H' → ∃ m', m' < m ∧ W (i + 1) m' σ' H') ∧ ∀ x H', (Itl K a).yld i H x H' → g x σ H' fun σ2 H2 => tb { D with nx := N, ct := N, bk := D.nx } σ2 H2) := by
  refine ⟨fun i m σ H => m = xs.length - i ∧ i ≤ xs.length ∧ Pv i σ H, ⟨xs.length, by simp, Nat.zero_le _, h0⟩, ?_⟩
  rintro i m σ H ⟨rfl, hi, p⟩
  have q := hl i σ H hi p
  by_cases hlt : i < xs.length
  · refine .inr ⟨⟨xs, xs[i], q, by simp [hlt]⟩, Pv (i + 1), fun σ' H' p' => ⟨xs.length - (i + 1), by omega, rfl, hlt, p'⟩, fun x H' y => ?_⟩
    obtain ⟨e, y⟩ := y
    subst e
    exact hs i x σ _ (y xs q) p
  · have e : i = xs.length := by omega
    subst e
    exact .inl ⟨⟨xs, q, Nat.le_refl _⟩, hd σ H p⟩
theorem for_tup {K : PySem.W.Frag} {a : Addr} {xs : List V} {g : TG} {tb : TS} {D : Ends} {σ : St} {H : Hp} (Pv : Nat → St → Hp → Prop) (h0 : Pv 0 σ H) (hl : ∀ i σ H, i ≤ xs.length → Pv i σ H → SqT K H a xs)
    (hs : ∀ i x σ H, xs[i]? = some x → Pv i σ H → g x σ H fun σ2 H2 => tb { D with nx := Pv (i + 1), ct := Pv (i + 1), bk := D.nx } σ2 H2) (hd : ∀ σ H, Pv xs.length σ H → D.nx σ H) :
    ∃ W : Nat → Nat → St → Hp → Prop, (∃ m, W 0 m σ H) ∧ ∀ i m σ H, W i m σ H →
      ((Itt K a).stop i H ∧ D.nx σ H) ∨ ((Itt K a).go i H ∧ ∃ N : St → Hp → Prop, (∀ σ' H', N σ' H' → ∃ m', m' < m ∧ W (i + 1) m' σ' H') ∧ ∀ x H', (Itt K a).yld i H x H' → g x σ H' fun σ2 H2 => tb { D with nx := N, ct := N, bk := D.nx } σ2 H2) := by
  refine ⟨fun i m σ H => m = xs.length - i ∧ i ≤ xs.length ∧ Pv i σ H, ⟨xs.length, by simp, Nat.zero_le _, h0⟩, ?_⟩
  rintro i m σ H ⟨rfl, hi, p⟩
  have q := hl i σ H hi p
  by_cases hlt : i < xs.length
  · refine .inr ⟨⟨xs, xs[i], q, by simp [hlt]⟩, Pv (i + 1), fun σ' H' p' => ⟨xs.length - (i + 1), by omega, rfl, hlt, p'⟩, fun x H' y => ?_⟩
    obtain ⟨e, y⟩ := y
    subst e
    exact hs i x σ _ (y xs q) p
  · have e : i = xs.length := by omega
    subst e
    exact .inl ⟨⟨xs, q, Nat.le_refl _⟩, hd σ H p⟩
theorem for_range {lo : Int} {n : Nat} {g : TG} {tb : TS} {D : Ends} {σ : St} {H : Hp} (Pv : Nat → St → Hp → Prop) (h0 : Pv 0 σ H)
    (hs : ∀ i σ H, i < n → Pv i σ H → g (.int (lo + i)) σ H fun σ2 H2 => tb { D with nx := Pv (i + 1), ct := Pv (i + 1), bk := D.nx } σ2 H2) (hd : ∀ σ H, Pv n σ H → D.nx σ H) :
    ∃ W : Nat → Nat → St → Hp → Prop, (∃ m, W 0 m σ H) ∧ ∀ i m σ H, W i m σ H →
      ((Itr lo n).stop i H ∧ D.nx σ H) ∨ ((Itr lo n).go i H ∧ ∃ N : St → Hp → Prop, (∀ σ' H', N σ' H' → ∃ m', m' < m ∧ W (i + 1) m' σ' H') ∧ ∀ x H', (Itr lo n).yld i H x H' → g x σ H' fun σ2 H2 => tb { D with nx := N, ct := N, bk := D.nx } σ2 H2) := by
  refine ⟨fun i m σ H => m = n - i ∧ i ≤ n ∧ Pv i σ H, ⟨n, by simp, Nat.zero_le _, h0⟩, ?_⟩
  rintro i m σ H ⟨rfl, hi, p⟩
  by_cases hlt : i < n
  · refine .inr ⟨hlt, Pv (i + 1), fun σ' H' p' => ⟨n - (i + 1), by omega, rfl, hlt, p'⟩, fun x H' y => ?_⟩
    obtain ⟨e, y⟩ := y
    subst e y
    exact hs i σ _ hlt p
  · have e : i = n := by omega
    subst e
    exact .inl ⟨Nat.le_refl _, hd σ H p⟩
end L2
namespace L2
open PySem PySem.Spec PyProof.Rows
abbrev R2 := V → V → Hp → VK → Prop
def OpR (X : Cx) (f : Value → Value → Sem Value) (r : R2) : Prop :=
  ∀ (pins : List (Addr × Obj)) (s : Shared) (σ : St) (H : Hp) (x y : V) (v u : Value) (Q : VK), Inv X pins σ H s → RelV x v → RelV y u → r x y H Q →
    wpAny (model X.prog X.w) X.A (f v u) (EP X pins σ Q) X.xe s
def CallR (X : Cx) (f : Value) (r : List V → Hp → VK → Prop) : Prop :=
  ∀ (pins : List (Addr × Obj)) (s : Shared) (σ : St) (H : Hp) (xs : List V) (us : List Value) (Q : VK), Inv X pins σ H s → Vals xs us → r xs H Q →
    wpAny (model X.prog X.w) X.A (call f us) (EP X pins σ Q) X.xe s
def tOp (r : R2) (ta tb : TE) : TE := fun σ H Q => ta σ H fun x H1 => tb σ H1 fun y H2 => r x y H2 Q
def rI (C : Int → Int → Prop) (g : Int → Int → V) : R2 := fun x y H Q => ∃ i j, x = .int i ∧ y = .int j ∧ C i j ∧ Q (g i j) H
def rI0 (g : Int → Int → V) : R2 := fun x y H Q => ∃ i j, x = .int i ∧ y = .int j ∧ Q (g i j) H
section
variable {X : Cx} {a b c : Expr} {ta tb tc : TE} {pos : Pos}
theorem binT (ha : PE X a ta) (hb : PE X b tb) {pins : List (Addr × Obj)} {s : Shared} {σ : St} {H : Hp} {R : V → V → Hp → Prop} (I : Inv X pins σ H s)
    (h : ta σ H fun x H1 => tb σ H1 fun y H2 => R x y H2) {Q : Value → Shared → Prop} {f : Value → Value → Sem Value}
    (hf : ∀ v u s2 x y H2, Inv X pins σ H2 s2 → RelV x v → RelV y u → R x y H2 → wpAny (model X.prog X.w) X.A (f v u) Q X.xe s2) :
    wpAny (model X.prog X.w) X.A (eval a X.env) (fun v s₁ => wpAny (model X.prog X.w) X.A (eval b X.env) (fun u s₂ => wpAny (model X.prog X.w) X.A (f v u) Q X.xe s₂) X.xe s₁) X.xe s := by
  refine thn (ha pins s σ H _ I h) fun v s1 ⟨x, H1, I1, r1, q1⟩ => ?_
  refine thn (hb pins s1 σ H1 _ I1 q1) fun u s2 ⟨y, H2, I2, r2, q2⟩ => ?_
  exact hf v u s2 x y H2 I2 r1 r2 q2
theorem pe_op {op : Operator} {r : R2} (ho : OpR X (binaryOp op) r) (ha : PE X a ta) (hb : PE X b tb) : PE X (.BinOp a op b pos) (tOp r ta tb) := by
  intro pins s σ H Q I h
  exact wpAny_BinOp (binT ha hb I h fun v u s2 x y H2 I2 rx ry q => ho pins s2 σ H2 x y v u Q I2 rx ry q)
theorem opI {f : Value → Value → Sem Value} {C : Int → Int → Prop} {g : Int → Int → Int}
    (rule : ∀ (i j : Int) (t u : Tok) (s : Shared) (Q : Value → Shared → Prop) (E : Value → Shared → Prop), C i j → Q (.int (g i j) s.toks) { s with toks := s.toks + 1 } → wpAny (model X.prog X.w) X.A (f (.int i t) (.int j u)) Q E s) :
    OpR X f (rI C fun i j => .int (g i j)) := by
  intro pins s σ H x y v u Q I rx ry h
  obtain ⟨i, j, rfl, rfl, hc, q⟩ := h
  obtain ⟨t, rfl⟩ := rx
  obtain ⟨t', rfl⟩ := ry
  exact rule i j t t' s _ _ hc ⟨.int (g i j), H, I.tok _, ⟨_, rfl⟩, q⟩
theorem opI0 {f : Value → Value → Sem Value} {g : Int → Int → Int}
    (rule : ∀ (i j : Int) (t u : Tok) (s : Shared) (Q : Value → Shared → Prop) (E : Value → Shared → Prop), Q (.int (g i j) s.toks) { s with toks := s.toks + 1 } → wpAny (model X.prog X.w) X.A (f (.int i t) (.int j u)) Q E s) :
    OpR X f (rI0 fun i j => .int (g i j)) := by
  intro pins s σ H x y v u Q I rx ry h
  obtain ⟨i, j, rfl, rfl, q⟩ := h
  obtain ⟨t, rfl⟩ := rx
  obtain ⟨t', rfl⟩ := ry
  exact rule i j t t' s _ _ ⟨.int (g i j), H, I.tok _, ⟨_, rfl⟩, q⟩
theorem opB0 {f : Value → Value → Sem Value} {g : Int → Int → Bool}
    (rule : ∀ (i j : Int) (t u : Tok) (s : Shared) (Q : Value → Shared → Prop) (E : Value → Shared → Prop), Q (.bool (g i j)) s → wpAny (model X.prog X.w) X.A (f (.int i t) (.int j u)) Q E s) :
    OpR X f (rI0 fun i j => .bl (g i j)) := by
  intro pins s σ H x y v u Q I rx ry h
  obtain ⟨i, j, rfl, rfl, q⟩ := h
  obtain ⟨t, rfl⟩ := rx
  obtain ⟨t', rfl⟩ := ry
  exact rule i j t t' s _ _ ⟨.bl (g i j), H, I, rfl, q⟩
def CDiv (i j : Int) : Prop := 0 < j ∧ j < 1073741824
def CPow (i j : Int) : Prop := 0 ≤ j ∧ j ≤ 1000000 ∧ i.natAbs < 2 ^ 64
def CMul (i j : Int) : Prop := (-(2 ^ 64) < i ∧ i < 2 ^ 64) ∨ (-(2 ^ 64) < j ∧ j < 2 ^ 64)
theorem CMul.ok {i j : Int} (h : CMul i j) : IntMulOk i j := by
  rcases h with ⟨h1, h2⟩ | ⟨h1, h2⟩
  · exact .of_left (intBits_le_64 h1 h2)
  · exact .of_right (intBits_le_64 h1 h2)
theorem op_add : OpR X (binaryOp .Add) (rI0 fun i j => .int (i + j)) := opI0 fun _ _ _ _ _ _ _ q => add_int q
theorem op_sub : OpR X (binaryOp .Sub) (rI0 fun i j => .int (i - j)) := opI0 fun _ _ _ _ _ _ _ q => sub_int q
theorem op_mul : OpR X (binaryOp .Mult) (rI CMul fun i j => .int (i * j)) := opI fun _ _ _ _ _ _ _ hc q => mul_int q hc.ok
theorem op_fdiv : OpR X (binaryOp .FloorDiv) (rI CDiv fun i j => .int (i / j)) := opI fun i j _ _ _ _ _ hc q => by
  have h1 : (0 : Int) < j := hc.1
  have h2 : j < 1073741824 := hc.2
  exact floordiv_int (by omega) (by rw [Int.fdiv_eq_ediv_of_nonneg i (by omega)]; exact q) (.inl (PyProof.noPylong_small (by omega)))
theorem op_mod : OpR X (binaryOp .Mod) (rI (fun _ j => 0 < j) fun i j => .int (i % j)) := opI fun i j _ _ _ _ _ hc q => by
  have h1 : (0 : Int) < j := hc
  exact mod_int' (by omega) (by rw [Int.fmod_eq_emod_of_nonneg i (by omega)]; exact q)
theorem op_pow : OpR X (binaryOp .Pow) (rI CPow fun i j => .int (i ^ j.toNat)) := opI fun _ _ _ _ _ _ _ hc q => pow_int_small hc.1 hc.2.1 hc.2.2 q
end
def scal : V → V → Bool
  | .non, .non => true | .non, .int _ => true | .int _, .non => true | .non, .bl _ => true | .bl _, .non => true | .non, .str _ => true | .str _, .non => true
  | .int _, .int _ => true | .bl _, .bl _ => true | .str _, .str _ => true | .byt _, .byt _ => true
  | .int _, .str _ => true | .str _, .int _ => true | .bl _, .str _ => true | .str _, .bl _ => true
  | _, _ => false
def rEq : R2 := fun x y H Q => scal x y = true ∧ Q (.bl (decide (x = y))) H
def rNe : R2 := fun x y H Q => scal x y = true ∧ Q (.bl (!decide (x = y))) H
theorem dec_int {i j : Int} : decide (V.int i = V.int j) = (i == j) := by
  rw [Bool.eq_iff_iff]
  simp
theorem dec_bl {i j : Bool} : decide (V.bl i = V.bl j) = (i == j) := by
  rw [Bool.eq_iff_iff]
  simp
theorem dec_str {i j : Str} : decide (V.str i = V.str j) = (i == j) := by
  rw [Bool.eq_iff_iff]
  simp
theorem dec_byt {i j : Array UInt8} : decide (V.byt i = V.byt j) = (i.toList == j.toList) := by
  rw [Bool.eq_iff_iff]
  cases i
  cases j
  simp
section
variable {X : Cx} {a b c : Expr} {ta tb tc : TE} {pos : Pos}
theorem fin_bl {pins : List (Addr × Obj)} {σ : St} {H : Hp} {s : Shared} {Q : VK} {k k' : Bool} (I : Inv X pins σ H s) (q : Q (.bl k) H) (e : k = k') : EP X pins σ Q (.bool k') s := by
  subst e
  exact ⟨.bl k, H, I, rfl, q⟩
theorem op_eq : OpR X (compareOp .Eq) rEq := by
  intro pins s σ H x y v u Q I rx ry h
  obtain ⟨hs, q⟩ := h
  cases x with
  | non =>
    cases rx
    cases y with
    | non => cases ry; exact PySem.EqNone.eq_none_none (fin_bl I q (by simp))
    | bl j => cases ry; exact PySem.EqNone.eq_none_bool (fin_bl I q (by simp))
    | int j => obtain ⟨t', rfl⟩ := ry; exact PySem.EqNone.eq_none_int (fin_bl I q (by simp))
    | str j => obtain ⟨t', rfl⟩ := ry; exact PySem.EqNone.eq_none_str (fin_bl I q (by simp))
    | _ => exact absurd (show false = true from hs) Bool.false_ne_true
  | bl i =>
    cases rx
    cases y with
    | non => cases ry; exact PySem.EqNone.eq_bool_none (fin_bl I q (by simp))
    | bl j => cases ry; exact eq_bool (fin_bl I q dec_bl)
    | str j => obtain ⟨t', rfl⟩ := ry; exact PySem.EqMixed.eq_bool_str (fin_bl I q (by simp))
    | _ => exact absurd (show false = true from hs) Bool.false_ne_true
  | int i =>
    obtain ⟨t, rfl⟩ := rx
    cases y with
    | non => cases ry; exact PySem.EqNone.eq_int_none (fin_bl I q (by simp))
    | int j => obtain ⟨t', rfl⟩ := ry; exact eq_int (fin_bl I q dec_int)
    | str j => obtain ⟨t', rfl⟩ := ry; exact PySem.EqMixed.eq_int_str (fin_bl I q (by simp))
    | _ => exact absurd (show false = true from hs) Bool.false_ne_true
  | str i =>
    obtain ⟨t, rfl⟩ := rx
    cases y with
    | non => cases ry; exact PySem.EqNone.eq_str_none (fin_bl I q (by simp))
    | bl j => cases ry; exact PySem.EqMixed.eq_str_bool (fin_bl I q (by simp))
    | int j => obtain ⟨t', rfl⟩ := ry; exact PySem.EqMixed.eq_str_int (fin_bl I q (by simp))
    | str j => obtain ⟨t', rfl⟩ := ry; exact eq_str (fin_bl I q dec_str)
    | _ => exact absurd (show false = true from hs) Bool.false_ne_true
  | byt i =>
    obtain ⟨t, rfl⟩ := rx
    cases y with
    | byt j => obtain ⟨t', rfl⟩ := ry; exact PySem.W.eq_bytes (fin_bl I q dec_byt)
    | _ => exact absurd (show false = true from hs) Bool.false_ne_true
  | _ => cases y <;> exact absurd (show false = true from hs) Bool.false_ne_true
theorem op_ne : OpR X (compareOp .NotEq) rNe := by
  intro pins s σ H x y v u Q I rx ry h
  obtain ⟨hs, q⟩ := h
  cases x with
  | non =>
    cases rx
    cases y with
    | non => cases ry; exact PySem.EqNone.ne_none_none (fin_bl I q (by simp))
    | bl j => cases ry; exact PySem.EqNone.ne_none_bool (fin_bl I q (by simp))
    | int j => obtain ⟨t', rfl⟩ := ry; exact PySem.EqNone.ne_none_int (fin_bl I q (by simp))
    | str j => obtain ⟨t', rfl⟩ := ry; exact PySem.EqNone.ne_none_str (fin_bl I q (by simp))
    | _ => exact absurd (show false = true from hs) Bool.false_ne_true
  | bl i =>
    cases rx
    cases y with
    | non => cases ry; exact PySem.EqNone.ne_bool_none (fin_bl I q (by simp))
    | bl j => cases ry; exact ne_bool (fin_bl I q (congrArg not dec_bl))
    | str j => obtain ⟨t', rfl⟩ := ry; exact PySem.EqMixed.ne_bool_str (fin_bl I q (by simp))
    | _ => exact absurd (show false = true from hs) Bool.false_ne_true
  | int i =>
    obtain ⟨t, rfl⟩ := rx
    cases y with
    | non => cases ry; exact PySem.EqNone.ne_int_none (fin_bl I q (by simp))
    | int j => obtain ⟨t', rfl⟩ := ry; exact ne_int (fin_bl I q (congrArg not dec_int))
    | str j => obtain ⟨t', rfl⟩ := ry; exact PySem.EqMixed.ne_int_str (fin_bl I q (by simp))
    | _ => exact absurd (show false = true from hs) Bool.false_ne_true
  | str i =>
    obtain ⟨t, rfl⟩ := rx
    cases y with
    | non => cases ry; exact PySem.EqNone.ne_str_none (fin_bl I q (by simp))
    | bl j => cases ry; exact PySem.EqMixed.ne_str_bool (fin_bl I q (by simp))
    | int j => obtain ⟨t', rfl⟩ := ry; exact PySem.EqMixed.ne_str_int (fin_bl I q (by simp))
    | str j => obtain ⟨t', rfl⟩ := ry; exact ne_str (fin_bl I q (congrArg not dec_str))
    | _ => exact absurd (show false = true from hs) Bool.false_ne_true
  | byt i =>
    obtain ⟨t, rfl⟩ := rx
    cases y with
    | byt j => obtain ⟨t', rfl⟩ := ry; exact PySem.W.ne_bytes (fin_bl I q (congrArg not dec_byt))
    | _ => exact absurd (show false = true from hs) Bool.false_ne_true
  | _ => cases y <;> exact absurd (show false = true from hs) Bool.false_ne_true
theorem op_lt : OpR X (compareOp .Lt) (rI0 fun i j => .bl (decide (i < j))) := opB0 fun _ _ _ _ _ _ _ q => lt_int q
theorem op_le : OpR X (compareOp .LtE) (rI0 fun i j => .bl (decide (i ≤ j))) := opB0 fun _ _ _ _ _ _ _ q => le_int q
theorem op_gt : OpR X (compareOp .Gt) (rI0 fun i j => .bl (decide (j < i))) := opB0 fun _ _ _ _ _ _ _ q => gt_int q
theorem op_in_str : OpR X (compareOp .In) (fun x y H Q => ∃ i j, x = .str i ∧ y = .str j ∧ Q (.bl (!(Builtin.Str.occurrences j i 0 j.length 1).isEmpty)) H) := by
  intro pins s σ H x y v u Q I rx ry h
  obtain ⟨i, j, rfl, rfl, q⟩ := h
  obtain ⟨t, rfl⟩ := rx
  obtain ⟨t', rfl⟩ := ry
  exact in_str (fin_bl I q rfl)
theorem op_isN : OpR X (compareOp .Is) (fun x y H Q => y = .non ∧ Q (.bl (decide (x = .non))) H) := by
  intro pins s σ H x y v u Q I rx ry h
  obtain ⟨rfl, q⟩ := h
  cases ry
  refine is_none_gen (fin_bl I q ?_)
  cases x <;> first
    | (cases rx; rfl)
    | (obtain ⟨t, rfl⟩ := rx; rfl)
theorem OpR.or {f : Value → Value → Sem Value} {r r' : R2} (h : OpR X f r) (h' : OpR X f r') : OpR X f (fun x y H Q => r x y H Q ∨ r' x y H Q) := by
  intro pins s σ H x y v u Q I rx ry q
  rcases q with q | q
  · exact h pins s σ H x y v u Q I rx ry q
  · exact h' pins s σ H x y v u Q I rx ry q
theorem nomark (b : Expr) {op : CmpOp} (h : op ≠ .In := by decide) (h2 : op ≠ .NotIn := by decide) : behindInMarks op b = false := by
  have e1 : (op == CmpOp.In) = false := by cases op <;> first | rfl | exact absurd rfl h
  have e2 : (op == CmpOp.NotIn) = false := by cases op <;> first | rfl | exact absurd rfl h2
  cases b <;> simp [behindInMarks, e1, e2]
theorem pe_cmpR {op : CmpOp} {r : R2} (ho : OpR X (compareOp op) r) (ha : PE X a ta) (hb : PE X b tb) (hm : behindInMarks op b = false) : PE X (.Compare a [op] [b] pos) (tOp r ta tb) := by
  intro pins s σ H Q I h
  exact wpAny_Compare1 (binT ha hb I h fun v u s2 x y H2 I2 rx ry q => ho pins s2 σ H2 x y v u Q I2 rx ry q) hm
def tTest (t : TE) : TT := fun σ H Q => t σ H fun x H' => ∃ k, x = .bl k ∧ Q k H'
theorem pt_cmpR {op : CmpOp} {r : R2} (ho : OpR X (compareOp op) r) (ha : PE X a ta) (hb : PE X b tb) (hm : behindInMarks op b = false) : PT X (.Compare a [op] [b] pos) (tTest (tOp r ta tb)) := by
  intro pins s σ H Q I h
  refine wpAny_isTrue_Compare1 (thn (ha pins s σ H _ I h) fun v s1 ⟨x, H1, I1, r1, q1⟩ => thn (hb pins s1 σ H1 _ I1 q1) fun u s2 ⟨y, H2, I2, r2, q2⟩ =>
    thn (ho pins s2 σ H2 x y v u _ I2 r1 r2 q2) fun c s3 ⟨z, H3, I3, r3, k, e, q3⟩ => ?_) hm
  subst e
  cases r3
  exact wpAny_truthy_bool ⟨H3, I3, q3⟩
def tChain (r r' : R2) (ta tb tc : TE) : TE := fun σ H Q => ta σ H fun x H1 => tb σ H1 fun y H2 => r x y H2 fun z H3 => ∃ k, z = .bl k ∧
  (if k = true then tc σ H3 fun w' H4 => r' y w' H4 Q else Q (.bl false) H3)
theorem pe_chain {op op' : CmpOp} {r r' : R2} (ho : OpR X (compareOp op) r) (ho' : OpR X (compareOp op') r') (ha : PE X a ta) (hb : PE X b tb) (hc : PE X c tc)
    (hm : lastMarks [op, op'] [b, c] = false := by with_unfolding_all rfl) : PE X (.Compare a [op, op'] [b, c] pos) (tChain r r' ta tb tc) := by
  intro pins s σ H Q I h
  refine Compare_chain (thn (ha pins s σ H _ I h) fun v s1 ⟨x, H1, I1, r1, q1⟩ => chain_link (thn (hb pins s1 σ H1 _ I1 q1) fun u s2 ⟨y, H2, I2, r2, q2⟩ =>
    thn (ho pins s2 σ H2 x y v u _ I2 r1 r2 q2) fun d s3 ⟨z, H3, I3, r3, k, e, q3⟩ => ?_)) hm
  subst e
  cases r3
  refine wpAny_truthy_bool ?_
  cases k with
  | false => exact ite_ff ⟨.bl false, H3, I3, rfl, q3⟩
  | true => exact ite_tt (chain_last (thn (hc pins s3 σ H3 _ I3 q3) fun w' s4 ⟨z', H4, I4, r4, q4⟩ => ho' pins s4 σ H4 y z' u w' Q I4 r2 r4 q4))
theorem line63 : (sizeLine : Nat) < 2 ^ 63 := by rw [sizeLine_eq]; decide
theorem op_add_str : OpR X (binaryOp .Add) (fun x y H Q => ∃ i j, x = .str i ∧ y = .str j ∧ i.length + j.length ≤ sizeLine ∧ Q (.str (i ++ j)) H) := by
  intro pins s σ H x y v u Q I rx ry h
  obtain ⟨i, j, rfl, rfl, hz, q⟩ := h
  obtain ⟨t, rfl⟩ := rx
  obtain ⟨t', rfl⟩ := ry
  exact add_str (fun t' tk => ⟨.str (i ++ j), H, I.tok _, ⟨_, rfl⟩, q⟩) hz
theorem vals1 {x : V} {us : List Value} (r : Vals [x] us) : ∃ u, us = [u] ∧ RelV x u := by
  cases r with
  | cons r1 r2 => cases r2; exact ⟨_, rfl, r1⟩
theorem call_abs : CallR X (.builtin "abs") (fun xs H Q => ∃ i, xs = [.int i] ∧ Q (.int (if i < 0 then -i else i)) H) := by
  intro pins s σ H xs us Q I r h
  obtain ⟨i, rfl, q⟩ := h
  obtain ⟨u, rfl, t, rfl⟩ := vals1 r
  exact call_abs_int fun u tk => ⟨.int (if i < 0 then -i else i), H, I.tok _, ⟨_, rfl⟩, q⟩
theorem call_int1 : CallR X (.type "int") (fun xs H Q => (∃ i, xs = [.int i] ∧ Q (.int i) H) ∨ ∃ k, xs = [.bl k] ∧ Q (.int (if k then 1 else 0)) H) := by
  intro pins s σ H xs us Q I r h
  rcases h with ⟨i, rfl, q⟩ | ⟨k, rfl, q⟩
  · obtain ⟨u, rfl, t, rfl⟩ := vals1 r
    exact call_int_int ⟨.int i, H, I, ⟨_, rfl⟩, q⟩
  · obtain ⟨u, rfl, r1⟩ := vals1 r
    cases r1
    exact call_int_bool ⟨.int (if k then 1 else 0), H, I.tok _, ⟨_, rfl⟩, q⟩
end
end L2
namespace L2
open PySem PySem.Spec PyProof.Rows
structure ObjM (h : Heap) (x dx C : Addr) (mA : Str → Option Value) : Prop where
  obj : h.get? x = some (PySem.W.instObj C dx)
  ns : h.Ns1 dx mA
  ne : dx ≠ x
theorem lookIn_ns {h : Heap} {dx : Addr} {mA : Str → Option Value} (n : h.Ns1 dx mA) : ∃ od, h.get? dx = some od ∧ ∀ name, PySem.W.lookIn name od = some (mA name) := by
  obtain ⟨o, es, ep, ho, hd, hk, _, hm⟩ := n
  refine ⟨o, ho, fun name => ?_⟩
  have e := hm name
  unfold nsFind findBy at e
  rw [← Array.find?_toList] at e
  unfold PySem.W.lookIn
  rw [hd]
  dsimp only
  split
  · rename_i y q
    rw [q] at e
    exact congrArg some e
  · rename_i q
    rw [q] at e
    have a : es.toList.any (·.refKey) = false := by
      rw [List.any_eq_false]
      intro y hy
      obtain ⟨z, t, hkey⟩ := hk y (Array.mem_toList_iff.mp hy)
      simp [DictEntry.refKey, hkey]
    have a' : ¬ es.toList.any (·.refKey) = true := by rw [a]; exact Bool.false_ne_true
    rw [if_neg a']
    exact congrArg some e
theorem ObjM.look {h : Heap} {x dx C : Addr} {mA : Str → Option Value} (I : ObjM h x dx C mA) : ∃ od, PySem.W.InstAt h x (PySem.W.instObj C dx) C (some od) ∧ ∀ name, PySem.W.lookIn name od = some (mA name) :=
  let ⟨od, ho, hl⟩ := lookIn_ns I.ns
  ⟨od, ⟨I.obj, rfl, rfl, ho⟩, hl⟩
section
variable {prog : Program} {w : World} {A : Around} {E : Value → Shared → Prop} {s : Shared} {K : PySem.W.Frag} {x dx C f : Addr} {mA : Str → Option Value} {name : Str} {v : Value}
end
theorem RelO.some_of {v : V} {o : Option Value} (r : RelO (some v) o) : ∃ u, o = some u ∧ RelV v u := by
  cases o with
  | none => exact (show False from r).elim
  | some u => exact ⟨u, rfl, r⟩
theorem handed_of {v : V} {u : Value} (r : RelV v u) : PySem.W.handedIn u = true := by
  cases v with
  | non => cases (show u = Value.none from r); rfl
  | bl b => cases (show u = Value.bool b from r); rfl
  | int i => obtain ⟨t, e⟩ := (show ∃ t, u = Value.int i t from r); cases e; rfl
  | str x => obtain ⟨t, e⟩ := (show ∃ t, u = Value.str x t from r); cases e; rfl
  | byt b => obtain ⟨t, e⟩ := (show ∃ t, u = Value.bytes b t from r); cases e; rfl
  | flt b => obtain ⟨t, e⟩ := (show ∃ t, u = Value.float b t from r); cases e; rfl
  | ref a => cases (show u = Value.ref a from r); rfl
  | ty n => cases (show u = Value.type n from r); rfl
section
variable {P : Program} {w : World} {H H' : Hp} {h h' : Heap} {a C dx : Addr} {fs fs' : List (Str × V)}
end
structure Cls (K : PySem.W.Frag) (C : Addr) : Prop where
  pg : PySem.W.plainGet K C Str.empty = true
  hd : PySem.W.hasDictIn K C = true
  po : PySem.W.plainOver K C = true
  sa : PySem.W.findIn K (.ref C) "__setattr__" = some (some (.builtin "object.__setattr__"))
theorem Cls.get {K : PySem.W.Frag} {C : Addr} (c : Cls K C) (f : Str) : PySem.W.plainGet K C f = true := c.pg
structure Con (K : PySem.W.Frag) (C : Addr) (f : Str) (v : V) (u : Value) : Prop where
  at_ : PySem.W.findIn K (.ref C) f = some (some u)
  rel : RelV v u
  get : PySem.W.specialIn K u "__get__" = some none
  cp : PySem.W.copiedNames.contains f = false
structure Meth (K : PySem.W.Frag) (C : Addr) (m : Str) (f : Addr) : Prop where
  at_ : PySem.W.findIn K (.ref C) m = some (some (.ref f))
  fn : PySem.W.isFn K (.ref f) = true
  kp : PySem.W.keepIn K (.ref f) = true
section
variable {X : Cx} {pins : List (Addr × Obj)} {σ : St} {H : Hp} {s : Shared} {a C dx : Addr} {fs : List (Str × V)} {f : Str} {v : V} {A : Around} {E : Value → Shared → Prop}
theorem attr_of {prog : Program} {w : World} {env : Env} {e : Expr} {f : Str} {pos : Pos} {s : Shared} {Q : Value → Shared → Prop} (hb : attributeBase e f env (eval e env) = eval e env)
    (h : wpAny (model prog w) A (eval e env) (fun o s₁ => wpAny (model prog w) A (getAttr o f true) Q E s₁) E s) : wpAny (model prog w) A (eval (.Attribute e f pos) env) Q E s :=
  Attribute_any_ h (by rw [arm_eval_Attribute, hb])
end
section
variable {X : Cx} {o e value : Expr} {f : Str} {pos pos' tpos : Pos} {ta tv : TE}
end
section
variable {X : Cx} {pins : List (Addr × Obj)} {σ : St} {H : Hp} {s : Shared} {A : Around} {E : Value → Shared → Prop} {Q : Value → Shared → Prop} {c : Value} {b : Bool}
inductive TyOf (K : PySem.W.Frag) (H : Hp) : V → Value → Prop where
  | non : TyOf K H .non (.type "NoneType")
  | bl (x : Bool) : TyOf K H (.bl x) (.type "bool")
  | int (i : Int) : TyOf K H (.int i) (.type "int")
  | str (x : Str) : TyOf K H (.str x) (.type "str")
  | flt (x : UInt64) : TyOf K H (.flt x) (.type "float")
  | lst {a : Addr} {xs : List V} (e : H a = some (.lst xs)) : TyOf K H (.ref a) (.type "list")
  | frz {a : Addr} {o : Obj} {xs : List V} (e : H a = some (.frz o (.lst xs))) : TyOf K H (.ref a) (.type "list")
  | tup {a : Addr} {xs : List V} (e : H a = some (.tup xs)) : TyOf K H (.ref a) (.type "tuple")
  | dK {a : Addr} {kvs : List (Key × V)} (e : H a = some (.dK kvs)) : TyOf K H (.ref a) (.type "dict")
  | dT {a : Addr} {kvs : List (List Key × V)} (e : H a = some (.dT kvs)) : TyOf K H (.ref a) (.type "dict")
  | ins {a C dx : Addr} {fs : List (Str × V)} (e : H a = some (.ins C dx fs)) (cl : Cls K C) (ha : PySem.W.findIn K (.ref C) "__class__" = some (some (.builtin "object.__class__")))
      (hn : PySem.W.specialIn K (.builtin "object.__class__") "__get__" = some (some (.builtin "getset_descriptor.__get__"))) (htk : PySem.W.takesIn K (.builtin "object.__class__") = some true)
      (hm : PySem.W.mroIn K C (.type "object") = some true) : TyOf K H (.ref a) (.ref C)
end
end L2
namespace L2
open PySem PySem.Spec PyProof.Rows
structure Room (k : Nat) (A : Around) : Prop where
  hd : A.handled = none
  dp : A.depth + 3 * k + 5 < recursionLimit
  un : A.units + 16 * k + 200 < cLine
theorem Room.mono {j k : Nat} {A : Around} (r : Room k A) (h : j ≤ k) : Room j A := ⟨r.hd, by have := r.dp; omega, by have := r.un; omega⟩
theorem Room.deeper {k : Nat} {A : Around} (r : Room (k + 1) A) (env : Env) : Room k (A.deeper env) :=
  ⟨r.hd, by have := r.dp; show A.depth + 1 + 3 * k + 5 < _; omega, by have := r.un; show A.units + 3 + 16 * k + 200 < _; omega⟩
theorem Room.in1 {k : Nat} {A : Around} (r : Room (k + 1) A) : Room k A.in1 :=
  ⟨r.hd, by have := r.dp; show A.depth + 3 * k + 5 < _; omega, by have := r.un; show A.units + 1 + 16 * k + 200 < _; omega⟩
theorem make_depth {A : Around} {C : Addr} {us : List Value} {kw : List (Str × Value)} : (A.under (.builtin "type.__call__" ⟨.ref C :: us, kw⟩)).depth = A.depth + 1 := by
  first | rfl | simp [Around.under, Code.weight, Code.isCreation, Code.isGuard, Code.isCaller, Code.frames, Code.isFrame, guardIds]
theorem make_units {A : Around} {C : Addr} {us : List Value} {kw : List (Str × Value)} : (A.under (.builtin "type.__call__" ⟨.ref C :: us, kw⟩)).units = A.units + 1 := by
  first | rfl | simp [Around.under, Code.cUnits, Code.frames, Code.isFrame]
theorem Room.make {k : Nat} {A : Around} (r : Room (k + 1) A) (C : Addr) (us : List Value) (kw : List (Str × Value)) : Room k (A.under (.builtin "type.__call__" ⟨.ref C :: us, kw⟩)) :=
  ⟨r.hd, by have := r.dp; rw [make_depth]; omega, by have := r.un; rw [make_units]; omega⟩
theorem Room.depth {k : Nat} {A : Around} (r : Room k A) : A.depth < recursionLimit := by have := r.dp; omega
theorem Room.units {k : Nat} {A : Around} (r : Room k A) : A.units + 64 < cLine := by have := r.un; omega
def tNil : TA := fun _ H Q => Q [] H
def tCons (ta : TE) (tr : TA) : TA := fun σ H Q => ta σ H fun x H1 => tr σ H1 fun xs H2 => Q (x :: xs) H2
section
variable {X : Cx} {e : Expr} {es : List Expr} {te : TE} {t : TA} {pos : Pos}
theorem pa_nil : PA X [] tNil := fun _ _ _ _ H Q I h => Calls.spliced_nil ⟨[], H, I, .nil, h⟩
theorem pa_cons (ha : PE X e te) (hr : PA X es t) (hs : starEach (e :: es) X.env = (false, eval e X.env) :: starEach es X.env := by rfl) : PA X (e :: es) (tCons te t) := by
  intro pos pins s σ H Q I h
  rw [hs]
  show wpAny _ _ (spliced ((false, eval e X.env) :: backTo pos (starEach es X.env))) _ _ s
  refine Calls.spliced_cons (thn (ha pins s σ H _ I h) fun u s1 ⟨x, H1, I1, r1, q1⟩ => ?_)
  exact thn (hr pos pins s1 σ H1 _ I1 q1) fun us s2 ⟨xs, H2, I2, r2, q2⟩ => ⟨x :: xs, H2, I2, .cons r1 r2, q2⟩
def tTup (t : TA) : TE := fun σ H Q => t σ H fun xs H1 => xs.length ≤ sizeLine ∧ ∀ p, H1 p = none → Q (.ref p) (upd H1 p (.tup xs))
def tLst (t : TA) : TE := fun σ H Q => t σ H fun xs H1 => xs.length ≤ sizeLine ∧ ∀ p, H1 p = none → Q (.ref p) (upd H1 p (.lst xs))
theorem pe_tup {x1} (h : PA X es t) : PE X (.Tuple es x1 pos) (tTup t) := by
  intro pins s σ H Q I hq
  refine wpAny_Tuple_spliced (thn (h pos pins s σ H _ I hq) fun us s1 ⟨xs, H1, I1, r, z, q⟩ => ⟨by rw [← r.length]; exact z, ?_⟩)
  have hf : H1 s1.heap.objs.size = none := I1.hok.fresh (Nat.le_refl _)
  refine ⟨.ref s1.heap.objs.size, upd H1 s1.heap.objs.size (.tup xs), I1.laid (t' := s1.toks) (fun b u e => Heap.get?_push_of_some _ e) (Nat.le_refl _) ?_, rfl, q _ hf⟩
  exact ⟨z, us, r, ⟨_, Heap.get?_push_size _ rfl, rfl, _, rfl⟩⟩
theorem pe_lst (h : PA X es t) : PE X (.List es pos) (tLst t) := by
  intro pins s σ H Q I hq
  refine wpAny_List_spliced (thn (h pos pins s σ H _ I hq) fun us s1 ⟨xs, H1, I1, r, z, q⟩ => ⟨by rw [← r.length]; exact z, ?_⟩)
  have hf : H1 s1.heap.objs.size = none := I1.hok.fresh (Nat.le_refl _)
  refine ⟨.ref s1.heap.objs.size, upd H1 s1.heap.objs.size (.lst xs), I1.laid (t' := s1.toks) (fun b u e => Heap.get?_push_of_some _ e) (Nat.le_refl _) ?_, rfl, q _ hf⟩
  exact ⟨z, us, 0, r, Heap.get?_push_size _ rfl⟩
end
abbrev Sp := List V → Hp → VK → XK → Prop
abbrev CXT := List Env → Hp → Shared → XK → Value → Shared → Prop
structure Env0 (P : Program) (w : World) (K : PySem.W.Frag) (mg : Str → Option Value) (base : Heap) (A : Around) (outer : List Env) (s : Shared) (H : Hp) : Prop where
  frames : A.frames = some outer
  mod : Mod K mg base
  bs : ∀ b o, base.get? b = some o → s.heap.get? b = some o ∧ H b = none
  bsz : base.objs.size ≤ s.heap.objs.size
  funs : s.heap.FunFrames base outer
  frf : ∀ b ∈ frs outer, H b = none
  hok : HOk P w H s.heap
  bare : AllBare s.gens
def CE (outer : List Env) (P : Program) (w : World) (H : Hp) (s : Shared) (Q : VK) (u : Value) (s' : Shared) : Prop :=
  ∃ v H', s'.os = s.os ∧ AllBare s'.gens ∧ Un (frs outer) [] H H' s.heap s'.heap ∧ HOk P w H' s'.heap ∧ RelV v u ∧ Q v H'
def CR (CX : CXT) (outer : List Env) (P : Program) (w : World) (H : Hp) (s : Shared) (Q : VK) (E : XK) (r : Result) (s' : Shared) : Prop :=
  match r with
  | .ok (.ret u) => CE outer P w H s Q u s'
  | .ok _ => False
  | .error e => CX outer H s E e s'
structure FnOk (P : Program) (w : World) (K : PySem.W.Frag) (mg : Str → Option Value) (base : Heap) (CX : CXT) (k : Nat) (f : Addr) (fd : FuncData) (ps : List Str) (sp : Sp) : Prop where
  len : ∀ vs H Q E, sp vs H Q E → vs.length = ps.length
  run : ∀ (A : Around) (outer : List Env) (s : Shared) (H : Hp) (args : Args) (us : List Value) (vs : List V) (Q : VK) (E : XK), Room k A → Env0 P w K mg base A outer s H → BindsTo s fd args (ps.zip us) → Vals vs us → sp vs H Q E →
    codeAny (model P w) A (.call (.ref f) args) (CR CX outer P w H s Q E) s
theorem FnOk.mono {P : Program} {w : World} {K : PySem.W.Frag} {mg : Str → Option Value} {base : Heap} {CX : CXT} {j k : Nat} {f : Addr} {fd : FuncData} {ps : List Str} {sp : Sp} (F : FnOk P w K mg base CX j f fd ps sp) (h : j ≤ k) :
    FnOk P w K mg base CX k f fd ps sp := ⟨F.len, fun A outer s H args us vs Q E hr => F.run A outer s H args us vs Q E (hr.mono h)⟩
theorem Env0.make {P : Program} {w : World} {K : PySem.W.Frag} {mg : Str → Option Value} {base : Heap} {A : Around} {outer : List Env} {s : Shared} {H : Hp} (e : Env0 P w K mg base A outer s H) (C : Addr) (us : List Value) (kw : List (Str × Value)) :
    Env0 P w K mg base (A.under (.builtin "type.__call__" ⟨.ref C :: us, kw⟩)) outer s H := ⟨by first | exact e.frames | (simpa [Around.under, Code.envs, Code.isFrame, pushEnvs] using e.frames), e.mod, e.bs, e.bsz, e.funs, e.frf, e.hok, e.bare⟩
theorem Env0.in1 {P : Program} {w : World} {K : PySem.W.Frag} {mg : Str → Option Value} {base : Heap} {A : Around} {outer : List Env} {s : Shared} {H : Hp} (e : Env0 P w K mg base A outer s H) :
    Env0 P w K mg base A.in1 outer s H := ⟨e.frames, e.mod, e.bs, e.bsz, e.funs, e.frf, e.hok, e.bare⟩
section
variable {X : Cx} {pins : List (Addr × Obj)} {σ : St} {H : Hp} {s s' : Shared}
theorem Inv.env0 (I : Inv X pins σ H s) : Env0 X.prog X.w X.K X.mg X.base X.A X.stack s H :=
  ⟨I.ok.frames, I.ok.mod, I.bs, Nat.le_trans I.ok.bsz I.sz, I.stack, I.stkFree, I.hok, I.bare⟩
theorem Inv.after {Q : VK} {u : Value} (I : Inv X pins σ H s) (h : CE X.stack X.prog X.w H s Q u s') : EP X pins σ Q u s' := by
  obtain ⟨v, H', os, bare, un, hok, r, q⟩ := h
  obtain ⟨hh, g, d, t, os'⟩ := s'
  obtain rfl : os' = s.os := os
  exact ⟨v, H', I.call (h' := hh) (g' := g) (d' := d) (t' := t) (ch := []) un hok bare (fun b z => absurd z (by simp)), r, q⟩
end
def tCall (sp : Sp) (dvs : List V) (E : XK) (t : TA) : TE := fun σ H Q => t σ H fun vs H1 => sp (vs ++ dvs) H1 Q E
def Binds (K : PySem.W.Frag) (fd : FuncData) (ps : List Str) (ds : List Value) : Prop :=
  ∀ (s : Shared) (us : List Value), K.In s.heap → (us ++ ds).length = ps.length → BindsTo s fd ⟨us, []⟩ (ps.zip (us ++ ds))
theorem Binds.all {K : PySem.W.Frag} {fd : FuncData} {ps : List Str} (h : ∀ us : List Value, us.length = ps.length → bindArgs fd ⟨us, []⟩ = pure (ps.zip us)) : Binds K fd ps [] := fun s us _ hl => by
  rw [List.append_nil] at hl ⊢
  exact .of_eq (h us hl)
def Passes (CX : CXT) (X : Cx) (E : XK) : Prop := ∀ (pins : List (Addr × Obj)) (σ : St) (H : Hp) (s : Shared) (e : Value) (s' : Shared), Inv X pins σ H s → CX X.stack H s E e s' → X.xe e s'
section
variable {X : Cx} {CX : CXT} {k : Nat} {f C : Addr} {fd : FuncData} {ps : List Str} {sp : Sp} {dvs : List V} {ds : List Value} {E : XK} {x m : Str} {p pos apos : Pos} {e o : Expr} {es : List Expr} {ta : TE} {t : TA}
theorem run_fn {pins : List (Addr × Obj)} {σ : St} {H : Hp} {s : Shared} {Q : VK} {us : List Value} {vs : List V} (F : FnOk X.prog X.w X.K X.mg X.base CX k f fd ps sp) (hr : Room k X.A) (hb : Binds X.K fd ps ds) (hd : Vals dvs ds) (hx : Passes CX X E)
    (I : Inv X pins σ H s) (r : Vals vs us) (h : sp (vs ++ dvs) H Q E) : wpAny (model X.prog X.w) X.A (call (.ref f) us) (EP X pins σ Q) X.xe s := by
  have r2 : Vals (vs ++ dvs) (us ++ ds) := r.append hd
  have hl : (us ++ ds).length = ps.length := by rw [← r2.length]; exact F.len _ _ _ _ h
  refine wpAny_call (codeAny_mono (F.run X.A X.stack s H ⟨us, []⟩ (us ++ ds) (vs ++ dvs) Q E hr I.env0 (hb s us I.kIn hl) r2 h) fun r s' hq => ?_)
  cases r with
  | error e => exact hx pins σ H s e s' I hq
  | ok fl =>
    cases fl with
    | ret u => exact I.after hq
    | next => exact False.elim hq
    | brk => exact False.elim hq
    | cont => exact False.elim hq
theorem pe_call (F : FnOk X.prog X.w X.K X.mg X.base CX k f fd ps sp) (hr : Room k X.A) (hg : Gl X x) (hm : X.mg x = some (.ref f)) (hk : PySem.W.keepIn X.K (.ref f) = true) (hb : Binds X.K fd ps ds) (hd : Vals dvs ds) (hx : Passes CX X E)
    (ha : PA X (e :: es) t) (hdb : (x == ("__debug__" : Str)) = false := by decide) (he : starEach (e :: es) X.env = (false, eval e X.env) :: starEach es X.env := by rfl) (hpl : (backTo pos (starEach es X.env)).any (·.1) = false := by rfl) :
    PE X (.Call (.Name x p) (e :: es) [] pos) (tCall sp dvs E t) := by
  intro pins s σ H Q I h
  refine wpAny_Call_Name_kw (ld_glob I hg hm ?_ hdb)
  refine PySem.W.callWith_K (h₀ := X.base) I.ok.mod.kin hk (thn (ha pos pins s σ H _ I h) fun us s1 ⟨vs, H1, I1, r, q⟩ => ⟨I1.kIn, ?_⟩) he hpl
  exact run_fn F hr hb hd hx I1 r q
structure Mk (K : PySem.W.Frag) (C f : Addr) : Prop where
  makes : PySem.W.makesIn K C = true
  init : PySem.W.findIn K (.ref C) "__init__" = some (some (.ref f))
  fn : PySem.W.isFn K (.ref f) = true
  kp : PySem.W.keepIn K (.ref C) = true
end
section
variable {X : Cx} {CX : CXT} {k : Nat} {f C : Addr} {fd : FuncData} {ps ks : List Str} {sp : Sp} {E : XK} {x m : Str} {p pos apos kpos : Pos} {e o : Expr} {es : List Expr} {kws : List Keyword} {te ta : TE} {t tk : TA} {nm : Option Str}
structure KBinds (K : PySem.W.Frag) (fd : FuncData) (ps ks : List Str) (g : List Value → List Value → List Value) (gV : List V → List V → List V) : Prop where
  to : ∀ (s : Shared) (us ws : List Value), K.In s.heap → (g us ws).length = ps.length → BindsTo s fd ⟨us, ks.zip ws⟩ (ps.zip (g us ws))
  rel : ∀ {vs : List V} {us : List Value} {zs : List V} {ws : List Value}, Vals vs us → Vals zs ws → Vals (gV vs zs) (g us ws)
variable {g : List Value → List Value → List Value} {gV : List V → List V → List V}
end
structure FnScope (N P : List Str) (sc : Scope) : Prop where
  kind : sc.kind = .function
  co : sc.isCoroutine = false
  gen : sc.isGenerator = false
  nd : N.Nodup
  pre : N.take P.length = P
  par : ∀ x ∈ P, sc.names.lookup x = some .local ∨ sc.names.lookup x = some .cell
  nofree : ∀ y ∈ sc.names, y.2 ≠ .free
theorem bindL_out {kindOf : Str → Option NameKind} {x : Str} : ∀ {binds : List (Str × Value)} {m : Str → Option Value}, (∀ v, (x, v) ∉ binds) → bindL kindOf binds m x = m x
  | [], _, _ => rfl
  | (n, v) :: r, m, h => by
    unfold bindL
    rw [bindL_out fun w hw => h w (List.mem_cons_of_mem _ hw)]
    split
    · have : x ≠ n := by rintro rfl; exact h v List.mem_cons_self
      simp [this]
    · rfl
theorem bindC_out {kindOf : Str → Option NameKind} {x : Str} : ∀ {binds : List (Str × Value)} {m : Str → Option Value}, (∀ v, (x, v) ∉ binds) → bindC kindOf binds m x = m x
  | [], _, _ => rfl
  | (n, v) :: r, m, h => by
    unfold bindC
    rw [bindC_out fun w hw => h w (List.mem_cons_of_mem _ hw)]
    split
    · rfl
    · have : x ≠ n := by rintro rfl; exact h v List.mem_cons_self
      simp [this]
theorem bindL_get {kindOf : Str → Option NameKind} {x : Str} {v : Value} : ∀ {P : List Str} {vs : List Value} {i : Nat} {m : Str → Option Value}, P.Nodup → P[i]? = some x → vs[i]? = some v → kindOf x = some .local →
    bindL kindOf (P.zip vs) m x = some v
  | [], _, _, _, _, h, _, _ => by simp at h
  | _ :: _, [], _, _, _, _, h, _ => by simp at h
  | p :: P, w :: vs, 0, m, nd, h1, h2, hk => by
    simp at h1 h2; subst h1; subst h2
    show bindL kindOf ((p, w) :: P.zip vs) m p = _
    unfold bindL
    rw [bindL_out fun v hv => (List.nodup_cons.mp nd).1 (List.of_mem_zip hv).1, if_pos hk]
    simp
  | p :: P, w :: vs, i + 1, m, nd, h1, h2, hk => by
    show bindL kindOf ((p, w) :: P.zip vs) m x = _
    unfold bindL
    exact bindL_get (i := i) (List.nodup_cons.mp nd).2 (by simpa using h1) (by simpa using h2) hk
theorem bindC_get {kindOf : Str → Option NameKind} {x : Str} {v : Value} : ∀ {P : List Str} {vs : List Value} {i : Nat} {m : Str → Option Value}, P.Nodup → P[i]? = some x → vs[i]? = some v → kindOf x ≠ some .local →
    bindC kindOf (P.zip vs) m x = some v
  | [], _, _, _, _, h, _, _ => by simp at h
  | _ :: _, [], _, _, _, _, h, _ => by simp at h
  | p :: P, w :: vs, 0, m, nd, h1, h2, hk => by
    simp at h1 h2; subst h1; subst h2
    show bindC kindOf ((p, w) :: P.zip vs) m p = _
    unfold bindC
    rw [bindC_out fun v hv => (List.nodup_cons.mp nd).1 (List.of_mem_zip hv).1, if_neg hk]
    simp
  | p :: P, w :: vs, i + 1, m, nd, h1, h2, hk => by
    show bindC kindOf ((p, w) :: P.zip vs) m x = _
    unfold bindC
    exact bindC_get (i := i) (List.nodup_cons.mp nd).2 (by simpa using h1) (by simpa using h2) hk
def start (N : List Str) (vs : List V) : St := vs.map some ++ List.replicate (N.length - vs.length) none
def cxOf (CX : CXT) (P : Program) (w : World) (K : PySem.W.Frag) (mg : Str → Option Value) (base : Heap) (N : List Str) (qual : Str) (scope : Scope) (f : Addr) (cd : Value) (A : Around) (outer : List Env) (s : Shared) (H : Hp) (E : XK) : Cx where
  prog := P
  w := w
  K := K
  mg := mg
  base := base
  A := A.deeper (envOfC qual scope s.heap.objs.size f cd)
  N := N
  s₀ := s
  H₀ := H
  env := envOfC qual scope s.heap.objs.size f cd
  outer := outer
  stack := envOfC qual scope s.heap.objs.size f cd :: outer
  ex := []
  calm := true
  fn := fun _ => true
  pn := []
  xe := fun e s' => wpAny (model P w) (A.deeper (envOfC qual scope s.heap.objs.size f cd)) (leaving (envOfC qual scope s.heap.objs.size f cd) e) (fun _ s'' => CX outer H s E e s'') (fun e' s'' => CX outer H s E e' s'') s'
theorem cell_has {sc : Scope} {n : Nat} {x : Str} (h : sc.names.lookup x = some .cell) : ∃ c, (cellsFrom n sc.names []).lookup x = some c := by
  have q := PySem.W.cellsFrom_some sc.names n [] (.inl h)
  exact Option.isSome_iff_exists.mp q
theorem inv_start {CX : CXT} {P : Program} {w : World} {K : PySem.W.Frag} {mg : Str → Option Value} {base : Heap} {N ps : List Str} {qual : Str} {scope : Scope} {f : Addr} {cd : Value} {A : Around} {outer : List Env} {s s1 : Shared} {H : Hp} {E : XK} {us : List Value} {vs : List V}
    (S : FnScope N ps scope) (hd : A.handled = none) (e0 : Env0 P w K mg base A outer s H) (hl : vs.length = ps.length) (r : Vals vs us)
    (x : InCallC s s.heap.objs.size (bindL (envOfC qual scope s.heap.objs.size f cd).kindOf (ps.zip us) fun _ => none) (cellsFrom (s.heap.objs.size + 1) scope.names []) (bindC (envOfC qual scope s.heap.objs.size f cd).kindOf (ps.zip us) fun _ => none) s1) :
    Inv (cxOf CX P w K mg base N qual scope f cd A outer s H E) [] (start N vs) H s1 := by
  have hpl : ps.length ≤ N.length := by have := congrArg List.length S.pre; rw [List.length_take] at this; omega
  obtain ⟨h1, tk, rfl, hk⟩ := x.done
  have noA : ∀ b : Addr, b ∉ (cxOf CX P w K mg base N qual scope f cd A outer s H E).ex := fun b z => absurd (show b ∈ ([] : List Addr) from z) (by simp)
  refine ⟨⟨e0.mod, S.kind, rfl, rfl, Nat.le_refl _, fun y z c h1 h2 => ?_, fun y hy => ?_, fun y c _ h => ?_, fun _ => hd, Around.frames_deeper e0.frames, .inr ⟨rfl, rfl⟩, fun b z => absurd z (noA b), e0.bs, e0.bsz, fun b _ _ => noA b, fun b z => absurd z (noA b), e0.funs, e0.frf⟩,
    rfl, e0.bare, Un.kept hk, ⟨_, x.toInCall.ns, fun i y v h1 h2 h3 => ?_⟩, fun y c h => ⟨_, x.cell y c h⟩, e0.hok.fresh (Nat.le_refl _), fun y c h => ?_, fun p hp => absurd (show p ∈ ([] : List (Addr × Obj)) from hp) (by simp), e0.hok.kept hk, ?_⟩
  · exact name_of_addr x.apart (PySem.mem_of_lookup h1) (PySem.mem_of_lookup h2)
  · have hy : scope.names.lookup y = some .cell ∨ scope.names.lookup y = some .free := hy
    rcases hy with hy | hy
    · exact cell_has hy
    · exact absurd rfl (S.nofree _ (PySem.mem_of_lookup hy))
  · exact Nat.le_of_lt (x.above y c (PySem.mem_of_lookup h))
  · have hi : i < vs.length := by
      unfold start at h2
      by_cases hi : i < vs.length
      · exact hi
      · rw [List.getElem?_append_right (by simpa using hi)] at h2
        rw [List.getElem?_replicate] at h2
        split at h2 <;> cases h2
    have ha : vs[i]? = some v := by
      unfold start at h2
      rw [List.getElem?_append_left (by simpa using hi), List.getElem?_map] at h2
      cases e : vs[i]? with
      | none => rw [e] at h2; cases h2
      | some a => rw [e] at h2; cases h2; rfl
    obtain ⟨u, hu, rv⟩ := r.get ha
    have hp : ps[i]? = some y := by
      rw [← S.pre, List.getElem?_take_of_lt (by omega)]; exact h1
    have ndP : ps.Nodup := by rw [← S.pre]; exact S.nd.sublist (List.take_sublist _ _)
    refine ⟨u, rv, ?_⟩
    rcases S.par y (List.mem_of_getElem? hp) with k | k
    · exact .inl ⟨k, bindL_get ndP hp hu k⟩
    · obtain ⟨c, e⟩ := cell_has (n := s.heap.objs.size + 1) k
      refine .inr ⟨.inl k, c, e, ?_⟩
      have q := x.cell y c e
      rw [bindC_get ndP hp hu (by show scope.names.lookup y ≠ _; rw [k]; decide)] at q
      exact q
  · exact e0.hok.fresh (Nat.le_of_lt (x.above y c (PySem.mem_of_lookup h)))
  · unfold start
    show _ = N.length
    rw [List.length_append, List.length_map, List.length_replicate]
    omega
theorem fn_of {CX : CXT} {P : Program} {w : World} {K : PySem.W.Frag} {mg : Str → Option Value} {base : Heap} {k : Nat} {f : Addr} {name qual : Str} {params : Arguments} {body : List Stmt} {scope : Scope} {dV kV doc pm cdv ct oc : Value} {an od : Option Addr}
    {osl : Array (Option Value)} {N ps : List Str} {sp : Sp} (lk : K.lookup f = some ⟨oc, od, .func (PySem.W.fnOf name qual params body scope dV kV doc pm an cdv ct), osl⟩) (hcd : PySem.W.codeIn K cdv qual = true) (S : FnScope N ps scope)
    (len : ∀ vs H Q E, sp vs H Q E → vs.length = ps.length)
    (hbody : ∀ (A : Around) (outer : List Env) (s : Shared) (H : Hp) (vs : List V) (Q : VK) (E : XK), Room k (A.deeper (envOfC qual scope s.heap.objs.size f cdv)) → sp vs H Q E →
      ∃ t, PSs (cxOf CX P w K mg base N qual scope f cdv A outer s H E) body t ∧ t { nx := fun _ H' => Q .non H', rt := Q } (start N vs) H) :
    FnOk P w K mg base CX (k + 1) f (PySem.W.fnOf name qual params body scope dV kV doc pm an cdv ct) ps sp := by
  refine ⟨len, fun A outer s H args us vs Q E hr e0 hb r hsp => ?_⟩
  have hl := len _ _ _ _ hsp
  have KX : K.In s.heap := e0.mod.kin.keeps fun b o e => (e0.bs b o e).1
  have lim : s.heap.NoLimit := e0.mod.nolimit.keeps fun b o e => (e0.bs b o e).1
  have hkind : ∀ y ∈ ps.zip us, scope.names.lookup y.1 = some .local ∨ (scope.names.lookup y.1 = some .cell ∧ ((cellsFrom (s.heap.objs.size + 1) scope.names []).lookup y.1).isSome = true) := fun ⟨n, v⟩ hy => by
    rcases S.par n (List.of_mem_zip hy).1 with q | q
    · exact .inl q
    · exact .inr ⟨q, PySem.W.cellsFrom_some _ _ _ (.inl q)⟩
  refine codeAny_call_function hr.depth (KX _ _ lk) rfl S.co S.gen rfl (PySem.W.codeRec_of KX hcd) (hb _ _ _ _ ?_)
  refine wpAny_newFunctionEnv_cells S.kind hkind fun env he s1 x => ?_
  subst he
  refine ⟨lim.keeps x.toInCall.keep, codeAny_func ?_⟩
  obtain ⟨t, ht, hq⟩ := hbody A outer s H vs Q E (hr.deeper _) hsp
  have I : Inv (cxOf CX P w K mg base N qual scope f cdv A outer s H E) [] (start N vs) H s1 := inv_start S hr.hd e0 hl r x
  refine wpAny_mono (ht [] s1 (start N vs) H _ I hq) (fun fl s' hs => ?_) fun e s' hs => hs
  have fin : ∀ {σ' : St} {H' : Hp} {v : V} {u : Value}, Inv (cxOf CX P w K mg base N qual scope f cdv A outer s H E) [] σ' H' s' → RelV v u → Q v H' → CE outer P w H s Q u s' :=
    fun {σ' H' v u} J rv q => ⟨v, H', J.os, J.bare, J.base, J.hok, rv, q⟩
  cases fl with
  | ret u =>
    obtain ⟨v, σ', H', J, rv, q⟩ := hs
    exact fin J rv q
  | next =>
    obtain ⟨σ', H', J, q⟩ := hs
    exact fin (v := V.non) (u := Value.none) J rfl q
  | brk =>
    obtain ⟨_, _, _, q⟩ := hs
    exact False.elim q
  | cont =>
    obtain ⟨_, _, _, q⟩ := hs
    exact False.elim q
end L2
namespace L2
open PySem PySem.Spec PyProof.Rows
section
variable {X : Cx} {x : Str} {p pos : Pos} {e : Expr} {es : List Expr} {t : TA} {id T : String} {r : List V → Hp → VK → Prop}
def tCB (r : List V → Hp → VK → Prop) (t : TA) : TE := fun σ H Q => t σ H fun vs H1 => r vs H1 Q
theorem pe_callB (hc : CallR X (.builtin id) r) (hg : Gl X x) (hm : X.mg x = none) (hv : bootBuiltins x = some (.builtin id)) (ha : PA X (e :: es) t) (hn : x ≠ "__name__" := by decide) (hdb : (x == ("__debug__" : Str)) = false := by decide)
    (he : starEach (e :: es) X.env = (false, eval e X.env) :: starEach es X.env := by rfl) (hpl : (backTo pos (starEach es X.env)).any (·.1) = false := by rfl) : PE X (.Call (.Name x p) (e :: es) [] pos) (tCB r t) := by
  intro pins s σ H Q I h
  refine wpAny_Call_Name_kw (ld_blt I hg hm hv ?_ hn hdb)
  exact PyProof.Rows.callWith_builtin1 (thn (ha pos pins s σ H _ I h) fun us s1 ⟨vs, H1, I1, r1, q1⟩ => hc pins s1 σ H1 vs us Q I1 r1 q1) he hpl
theorem pe_callTy (hc : CallR X (.type T) r) (hg : Gl X x) (hm : X.mg x = none) (hv : bootBuiltins x = some (.type T)) (ha : PA X (e :: es) t) (hn : x ≠ "__name__" := by decide) (hdb : (x == ("__debug__" : Str)) = false := by decide)
    (he : starEach (e :: es) X.env = (false, eval e X.env) :: starEach es X.env := by rfl) (hpl : (backTo pos (starEach es X.env)).any (·.1) = false := by rfl) : PE X (.Call (.Name x p) (e :: es) [] pos) (tCB r t) := by
  intro pins s σ H Q I h
  refine wpAny_Call_Name_kw (ld_blt I hg hm hv ?_ hn hdb)
  exact PyProof.Rows.callWith_type1 (thn (ha pos pins s σ H _ I h) fun us s1 ⟨vs, H1, I1, r1, q1⟩ => hc pins s1 σ H1 vs us Q I1 r1 q1) he hpl
end
end L2
namespace HT
open PySem PyProof.Rows
section
open PySem.SeqAt
open PySem.AutoSeq1 (wpAny_loadPart')
open PySem.MeetsSeq PySem.MeetsSeq2 PySem.MeetsSeq3
end
section
variable {prog : Program} {w : World} {A : Around} {E : Value → Shared → Prop} {s : Shared}
def sIx (n d : Nat) : Option Int → Nat
  | none => d
  | some v => if v < 0 then (v + (n : Int)).toNat else min v.toNat n
end
end HT
namespace L2
open PySem PySem.Spec PyProof.Rows
abbrev TO := St → Hp → (Option Int → Hp → Prop) → Prop
def PO (X : Cx) (e : Option Expr) (t : TO) : Prop :=
  ∀ (pins : List (Addr × Obj)) (s : Shared) (σ : St) (H : Hp) (Q : Option Int → Hp → Prop), Inv X pins σ H s → t σ H Q →
    wpAny (model X.prog X.w) X.A (evalPart e X.env) (fun u s' => ∃ o H', Inv X pins σ H' s' ∧ IsPart u o ∧ Q o H') X.xe s
def tNoPart : TO := fun _ H Q => Q none H
def tPart (t : TE) : TO := fun σ H Q => t σ H fun x H1 => ∃ i, x = .int i ∧ Q (some i) H1
section
variable {X : Cx} {e : Expr} {te : TE} {lo hi : Option Expr} {tl th : TO} {pos p2 : Pos}
theorem po_none : PO X none tNoPart := by
  intro pins s σ H Q I h
  rw [evalPart_none]
  exact wpAny_pure ⟨none, H, I, .none, h⟩
theorem po_some (h : PE X e te) : PO X (some e) (tPart te) := by
  intro pins s σ H Q I hw
  rw [evalPart_some]
  refine thn (h pins s σ H _ I hw) fun u s1 ⟨x, H1, I1, r1, q1⟩ => ?_
  obtain ⟨i, rfl, q⟩ := q1
  obtain ⟨t, rfl⟩ := r1
  exact ⟨some i, H1, I1, .int i t, q⟩
def SlR (X : Cx) (r : V → Option Int → Option Int → Hp → VK → Prop) : Prop :=
  ∀ (pins : List (Addr × Obj)) (s : Shared) (σ : St) (H : Hp) (x : V) (v vl vu : Value) (lo hi : Option Int) (sl : Addr) (Q : VK), Inv X pins σ H s → RelV x v → s.heap.IsSliceOf sl vl vu .none → IsPart vl lo → IsPart vu hi → r x lo hi H Q →
    ∃ T id, typeLookup (.type T) "__getitem__" = pure (some (.builtin id)) ∧ s.TypeIs v T ∧ wpAny (model X.prog X.w) X.A (getItem v (.ref sl)) (EP X pins σ Q) X.xe s
theorem SlR.or {r r' : V → Option Int → Option Int → Hp → VK → Prop} (h : SlR X r) (h' : SlR X r') : SlR X (fun x lo hi H Q => r x lo hi H Q ∨ r' x lo hi H Q) := by
  intro pins s σ H x v vl vu lo hi sl Q I rx hs pl pu q
  rcases q with q | q
  · exact h pins s σ H x v vl vu lo hi sl Q I rx hs pl pu q
  · exact h' pins s σ H x v vl vu lo hi sl Q I rx hs pl pu q
def tSl (r : V → Option Int → Option Int → Hp → VK → Prop) (te : TE) (tl th : TO) : TE := fun σ H Q => te σ H fun x H1 => tl σ H1 fun l H2 => th σ H2 fun u H3 => r x l u H3 Q
theorem pe_slice {r : V → Option Int → Option Int → Hp → VK → Prop} (hr : SlR X r) (he : PE X e te) (hl : PO X lo tl) (hu : PO X hi th) : PE X (.Subscript e (.Slice lo hi none p2) pos) (tSl r te tl th) := by
  intro pins s σ H Q I h
  refine Subscript_ (thn (he pins s σ H _ I h) fun v s1 ⟨x, H1, I1, r1, q1⟩ => ?_)
  refine wpAny_Slice (thn (hl pins s1 σ H1 _ I1 q1) fun vl s2 ⟨l, H2, I2, pl, q2⟩ => thn (hu pins s2 σ H2 _ I2 q2) fun vu s3 ⟨u, H3, I3, pu, q3⟩ => ?_)
  rw [evalPart_none]
  refine wpAny_pure ?_
  have I4 : Inv X pins σ H3 { s3 with heap := s3.heap.push { cls := .type "slice", data := .fields #[vl, vu, .none] } } := I3.kept (t' := s3.toks) fun b ob q => Heap.get?_push_of_some _ q
  obtain ⟨T, id, hT, ht, hg⟩ := hr pins { s3 with heap := s3.heap.push { cls := .type "slice", data := .fields #[vl, vu, .none] } } σ H3 x v vl vu l u s3.heap.objs.size Q I4 r1 (Heap.IsSliceOf.new ..) pl pu q3
  show wpAny (model X.prog X.w) X.A (subscriptTail e (.Slice lo hi none p2) v (.ref s3.heap.objs.size)) (EP X pins σ Q) X.xe { s3 with heap := s3.heap.push { cls := .type "slice", data := .fields #[vl, vu, .none] } }
  exact tail_any (ops := [.ref s3.heap.objs.size, v]) ht hT hg (by with_unfolding_all rfl)
def cutV (xs : List V) (lo hi : Option Int) : List V := (xs.drop (HT.sIx xs.length 0 lo)).take (HT.sIx xs.length xs.length hi - HT.sIx xs.length 0 lo)
theorem cutV_length (xs : List V) (lo hi : Option Int) : (cutV xs lo hi).length ≤ xs.length := by
  unfold cutV
  rw [List.length_take, List.length_drop]
  omega
end
end L2
namespace L2
open PySem PySem.Spec PyProof.Rows
def ixN (n : Nat) (i : Int) : Option Nat := if 0 ≤ i then (if i < n then some i.toNat else none) else if -(n : Int) ≤ i then some (i + n).toNat else none
def atI {α : Type} (xs : List α) (i : Int) : Option α := (ixN xs.length i).bind fun j => xs[j]?
theorem ixN_seq {n : Nat} {i : Int} {j : Nat} (h : ixN n i = some j) : seqIndex? i n = some j ∧ j < n ∧ -(n : Int) ≤ i ∧ i < n := by
  unfold ixN at h
  by_cases h0 : 0 ≤ i
  · rw [if_pos h0] at h
    by_cases h1 : i < n
    · rw [if_pos h1] at h
      have e : i.toNat = j := Option.some.inj h
      exact ⟨by rw [seqIndex_of h0 h1, e], by omega, by omega, h1⟩
    · rw [if_neg h1] at h; cases h
  · rw [if_neg h0] at h
    by_cases h1 : -(n : Int) ≤ i
    · rw [if_pos h1] at h
      have e : (i + n).toNat = j := Option.some.inj h
      exact ⟨by rw [seqIndex_neg (by omega) h1, e], by omega, h1, by omega⟩
    · rw [if_neg h1] at h; cases h
theorem atI_get {α : Type} {xs : List α} {i : Int} {v : α} (h : atI xs i = some v) : ∃ j, seqIndex? i xs.length = some j ∧ xs[j]? = some v ∧ j < xs.length ∧ -(xs.length : Int) ≤ i ∧ i < xs.length := by
  unfold atI at h
  cases e : ixN xs.length i with
  | none => rw [e] at h; cases h
  | some j =>
    rw [e] at h
    obtain ⟨h1, h2, h3, h4⟩ := ixN_seq e
    exact ⟨j, h1, h, h2, h3, h4⟩
theorem atI_nat {α : Type} {xs : List α} {j : Nat} {v : α} (h : xs[j]? = some v) : atI xs (j : Int) = some v := by
  have hj : j < xs.length := (List.getElem?_eq_some_iff.mp h).1
  have e : ixN xs.length (j : Int) = some j := by
    unfold ixN
    rw [if_pos (by omega), if_pos (by omega)]; simp
  unfold atI; rw [e]; exact h
def PlainIx (b : Expr) : Prop := ∀ o i, subscripted b false o i = operate [o, i] (getItem o i)
def IxR (X : Cx) (r : R2) : Prop :=
  ∀ (value slice : Expr) (pins : List (Addr × Obj)) (s : Shared) (σ : St) (H : Hp) (x y : V) (v u : Value) (Q : VK), Inv X pins σ H s → RelV x v → RelV y u → r x y H Q →
    subscripted slice false v u = operate [v, u] (getItem v u) → wpAny (model X.prog X.w) X.A (subscriptTail value slice v u) (EP X pins σ Q) X.xe s
def MtR (X : Cx) (id : String) (r : V → List V → Hp → VK → Prop) : Prop :=
  ∀ (pins : List (Addr × Obj)) (s : Shared) (σ : St) (H : Hp) (x : V) (xs : List V) (v : Value) (us : List Value) (Q : VK), Inv X pins σ H s → RelV x v → Vals xs us → r x xs H Q →
    wpAny (model X.prog X.w) X.A (call (.builtin id) (v :: us)) (EP X pins σ Q) X.xe s
section
variable {X : Cx} {a b : Expr} {ta tb : TE} {pos : Pos}
theorem IxR.or {r r' : R2} (h : IxR X r) (h' : IxR X r') : IxR X (fun x y H Q => r x y H Q ∨ r' x y H Q) := by
  intro value slice pins s σ H x y v u Q I rx ry q hs
  rcases q with q | q
  · exact h value slice pins s σ H x y v u Q I rx ry q hs
  · exact h' value slice pins s σ H x y v u Q I rx ry q hs
theorem MtR.or {id : String} {r r' : V → List V → Hp → VK → Prop} (h : MtR X id r) (h' : MtR X id r') : MtR X id (fun x xs H Q => r x xs H Q ∨ r' x xs H Q) := by
  intro pins s σ H x xs v us Q I rx rs q
  rcases q with q | q
  · exact h pins s σ H x xs v us Q I rx rs q
  · exact h' pins s σ H x xs v us Q I rx rs q
theorem pe_ix {r : R2} (hr : IxR X r) (ha : PE X a ta) (hb : PE X b tb) (hs : PlainIx b) : PE X (.Subscript a b pos) (tOp r ta tb) := by
  intro pins s σ H Q I h
  exact Subscript_ (binT ha hb I h fun v u s2 x y H2 I2 rx ry q => hr a b pins s2 σ H2 x y v u Q I2 rx ry q (hs _ _))
def rIxL (K : PySem.W.Frag) : R2 := fun x y H Q => ∃ p xs i v, x = .ref p ∧ y = .int i ∧ SqL K H p xs ∧ atI xs i = some v ∧ Q v H
def rIxT (K : PySem.W.Frag) : R2 := fun x y H Q => ∃ p xs i v, x = .ref p ∧ y = .int i ∧ SqT K H p xs ∧ atI xs i = some v ∧ Q v H
def rIxS : R2 := fun x y H Q => ∃ z i c, x = .str z ∧ y = .int i ∧ z.length ≤ sizeLine ∧ atI z.cps.toList i = some c ∧ Q (.str ⟨#[c]⟩) H
theorem ix_list : IxR X (rIxL X.K) := by
  intro value slice pins s σ H x y v u Q I rx ry h hs
  obtain ⟨p, xs, i, z, rfl, rfl, hq, he, q⟩ := h
  cases rx
  obtain ⟨t, rfl⟩ := ry
  obtain ⟨its, r, pl, hz⟩ := I.list hq
  obtain ⟨j, h1, h2, h3, h4, h5⟩ := atI_get he
  obtain ⟨w, ew, rw'⟩ := r.get h2
  have hl := r.length
  have hn := line63
  have fin : EP X pins σ Q w s := ⟨z, H, I, rw', q⟩
  by_cases h0 : 0 ≤ i
  · have hj : i.toNat = j := by
      rw [seqIndex_of h0 h5] at h1
      exact Option.some.inj h1
    exact item_listR pl.isList h0 (by omega) (by rw [hj]; simpa using ew) fin hs
  · have hj : (i + (its.toArray.size : Int)).toNat = j := by
      rw [seqIndex_neg (by omega) h4] at h1
      rw [List.size_toArray, ← hl]
      exact Option.some.inj h1
    exact subscriptTail_builtinR (x := w) pl.isList.typeIs slot_list_getitem.lookup
      (wpAny_getItem_list_neg (Q := fun r s' => r = w ∧ EP X pins σ Q r s') pl.isList (by omega) (by rw [List.size_toArray] <;> omega) (by omega) (by rw [hj]; simpa using ew) ⟨rfl, fin⟩) hs
theorem ix_tup : IxR X (rIxT X.K) := by
  intro value slice pins s σ H x y v u Q I rx ry h hs
  obtain ⟨p, xs, i, z, rfl, rfl, hq, he, q⟩ := h
  cases rx
  obtain ⟨t, rfl⟩ := ry
  obtain ⟨its, r, pl, hz⟩ := I.tuple hq
  obtain ⟨j, h1, h2, h3, h4, h5⟩ := atI_get he
  obtain ⟨w, ew, rw'⟩ := r.get h2
  have hl := r.length
  have hn := line63
  have fin : EP X pins σ Q w s := ⟨z, H, I, rw', q⟩
  exact subscriptTail_builtinR (x := w) pl.typeIs slot_tuple_getitem.lookup
    (getItem_tuple (j := j) (Q := fun r s' => r = w ∧ EP X pins σ Q r s') pl (by omega) (by omega) (by rw [List.size_toArray, ← hl]; exact h1) (by simpa using ew) ⟨rfl, fin⟩) hs
theorem ix_str : IxR X rIxS := by
  intro value slice pins s σ H x y v u Q I rx ry h hs
  obtain ⟨z, i, c, rfl, rfl, hz, he, q⟩ := h
  obtain ⟨t, rfl⟩ := rx
  obtain ⟨t', rfl⟩ := ry
  obtain ⟨j, h1, h2, h3, h4, h5⟩ := atI_get he
  have hl : z.cps.toList.length = z.length := by simp [Str.length]
  rw [hl] at h1 h4 h5
  have hn := line63
  exact tail_any (typeIs_str s z t) slot_str_getitem.lookup (getItem_str (c := c) (by
    have e1 : decide (i < -(2 ^ 63 : Int)) = false := decide_eq_false (by omega)
    have e2 : decide (i ≥ 2 ^ 63) = false := decide_eq_false (by omega)
    rw [e1, e2, Bool.or_false]) (by rw [h1]; simpa using h2) ⟨.str ⟨#[c]⟩, H, I.tok _, ⟨_, rfl⟩, q⟩) hs
def rIx (K : PySem.W.Frag) : R2 := fun x y H Q => rIxL K x y H Q ∨ rIxT K x y H Q ∨ rIxS x y H Q
theorem ix_seq : IxR X (rIx X.K) := ix_list.or (ix_tup.or ix_str)
theorem Inv.lst {pins : List (Addr × Obj)} {σ : St} {H : Hp} {s : Shared} {p : Addr} {xs : List V} (I : Inv X pins σ H s) (h : H p = some (.lst xs)) :
    ∃ (its : List Value) (n : Nat), Vals xs its ∧ s.heap.get? p = some { cls := .type "list", data := .seq its.toArray n } ∧ xs.length ≤ sizeLine := by
  obtain ⟨z, its, n, r, e⟩ := I.hok p _ h
  exact ⟨its, n, r, e, z⟩
theorem slice_bounds (lo hi : Option Int) (n : Nat) : (sliceBounds lo hi none n).1 = ((HT.sIx n 0 lo : Nat) : Int) ∧ (sliceBounds lo hi none n).2.1 = ((HT.sIx n n hi : Nat) : Int) ∧ (sliceBounds lo hi none n).2.2 = 1 := by
  refine ⟨?_, ?_, rfl⟩
  · cases lo with
    | none => simp [sliceBounds, HT.sIx]
    | some i =>
      simp only [sliceBounds, HT.sIx, Option.getD_none, show (1 : Int) > 0 by decide, if_true]
      by_cases h : i < 0
      · simp only [h, if_true] <;> omega
      · simp only [h, if_false] <;> omega
  · cases hi with
    | none => simp [sliceBounds, HT.sIx]
    | some i =>
      simp only [sliceBounds, HT.sIx, Option.getD_none, show (1 : Int) > 0 by decide, if_true]
      by_cases h : i < 0
      · simp only [h, if_true] <;> omega
      · simp only [h, if_false] <;> omega
theorem slicePick_cut (its : List Value) (lo hi : Option Int) : slicePick its.toArray lo hi none = ((its.drop (HT.sIx its.length 0 lo)).take (HT.sIx its.length its.length hi - HT.sIx its.length 0 lo)).toArray := by
  obtain ⟨h1, h2, h3⟩ := slice_bounds lo hi its.toArray.size
  unfold slicePick
  rw [h1, h2, h3]
  simp only [sliceRange_one, pick_run, List.size_toArray] <;> rfl
def rSlL (K : PySem.W.Frag) : V → Option Int → Option Int → Hp → VK → Prop := fun x lo hi H Q => ∃ a xs, x = .ref a ∧ SqL K H a xs ∧ ∀ p, H p = none → Q (.ref p) (upd H p (.lst (cutV xs lo hi)))
theorem sl_list : SlR X (rSlL X.K) := by
  intro pins s σ H x v vl vu lo hi sl Q I rx hs pl pu h
  obtain ⟨a, xs, rfl, hx, q⟩ := h
  cases rx
  obtain ⟨its, r, ht, hz⟩ := I.list hx
  have hlen := r.length
  refine ⟨"list", _, slot_list_getitem.lookup, ht.isList.typeIs, ?_⟩
  refine wpAny_getItem_list_slice ht.isList hs pl pu .none (by simp) ?_ (by rw [List.size_toArray] <;> omega)
  rw [slicePick_cut, ← hlen]
  refine ⟨.ref s.heap.objs.size, _, I.laid (t' := s.toks) (o := .lst (cutV xs lo hi)) (fun b ob q => Heap.get?_push_of_some _ q) (Nat.le_refl _) ?_, rfl, q _ (I.hok.fresh (Nat.le_refl _))⟩
  exact ⟨Nat.le_trans (cutV_length xs lo hi) hz, _, 0, (r.drop (HT.sIx xs.length 0 lo)).take (HT.sIx xs.length xs.length hi - HT.sIx xs.length 0 lo), Heap.get?_push_size _ rfl⟩
def flatV : V → Bool
  | .non => true
  | .bl _ => true
  | .int _ => true
  | .str _ => true
  | _ => false
def eqV : V → V → Bool
  | .non, .non => true
  | .bl a, .bl b => a == b
  | .bl a, .int b => (if a then 1 else 0) == b
  | .int a, .bl b => a == (if b then 1 else 0)
  | .int a, .int b => a == b
  | .str a, .str b => a == b
  | _, _ => false
theorem eqAt_V {A : Around} {s : Shared} {y x : V} {u v : Value} (ry : RelV y u) (rx : RelV x v) (fy : flatV y = true) (fx : flatV x = true) : SeqAt.EqAt A s u v (eqV y x) := by
  cases y with
  | non =>
    cases ry
    cases x with
    | non => cases rx; exact SeqAt.EqAt.same _
    | bl b => cases rx; exact SeqAt.EqAt.none_bool b
    | int b => obtain ⟨t, rfl⟩ := rx; exact SeqAt.EqAt.none_int b t
    | str b => obtain ⟨t, rfl⟩ := rx; exact SeqAt.EqAt.none_str b t
    | _ => exact absurd (show false = true from fx) Bool.false_ne_true
  | bl a =>
    cases ry
    cases x with
    | non => cases rx; exact SeqAt.EqAt.bool_none a
    | bl b => cases rx; exact SeqAt.EqAt.bool_bool a b
    | int b => obtain ⟨t, rfl⟩ := rx; exact SeqAt.EqAt.bool_int a b t
    | str b => obtain ⟨t, rfl⟩ := rx; exact SeqAt.EqAt.bool_str a b t
    | _ => exact absurd (show false = true from fx) Bool.false_ne_true
  | int a =>
    obtain ⟨t', rfl⟩ := ry
    cases x with
    | non => cases rx; exact SeqAt.EqAt.int_none a t'
    | bl b => cases rx; exact SeqAt.EqAt.int_bool a t' b
    | int b => obtain ⟨t, rfl⟩ := rx; exact SeqAt.EqAt.int_int a t' b t
    | str b => obtain ⟨t, rfl⟩ := rx; exact SeqAt.EqAt.int_str a t' b t
    | _ => exact absurd (show false = true from fx) Bool.false_ne_true
  | str a =>
    obtain ⟨t', rfl⟩ := ry
    cases x with
    | non => cases rx; exact SeqAt.EqAt.str_none a t'
    | bl b => cases rx; exact SeqAt.EqAt.str_bool a t' b
    | int b => obtain ⟨t, rfl⟩ := rx; exact SeqAt.EqAt.str_int a t' b t
    | str b => obtain ⟨t, rfl⟩ := rx; exact SeqAt.EqAt.str_str a t' b t
    | _ => exact absurd (show false = true from fx) Bool.false_ne_true
  | _ => exact absurd (show false = true from fy) Bool.false_ne_true
def eqU (x : V) (u : Value) : Bool := match u with
  | .none => eqV .non x
  | .bool b => eqV (.bl b) x
  | .int i _ => eqV (.int i) x
  | .str z _ => eqV (.str z) x
  | _ => false
theorem eqU_of {x y : V} {u : Value} (r : RelV y u) (f : flatV y = true) : eqU x u = eqV y x := by
  cases y with
  | non => cases r; rfl
  | bl b => cases r; rfl
  | int i => obtain ⟨t, rfl⟩ := r; rfl
  | str z => obtain ⟨t, rfl⟩ := r; rfl
  | _ => exact absurd (show false = true from f) Bool.false_ne_true
theorem any_eqU {x : V} : ∀ {xs : List V} {us : List Value}, Vals xs us → xs.all flatV = true → us.any (eqU x) = xs.any fun y => eqV y x
  | _, _, .nil, _ => rfl
  | y :: xs, u :: us, .cons r t, f => by
    rw [List.all_cons, Bool.and_eq_true] at f
    rw [List.any_cons, List.any_cons, eqU_of r f.1, any_eqU t f.2]
theorem mem_eqAt {A : Around} {s : Shared} {x : V} {v : Value} (rx : RelV x v) (fx : flatV x = true) : ∀ {xs : List V} {us : List Value}, Vals xs us → xs.all flatV = true → ∀ u ∈ us, SeqAt.EqAt A s u v (eqU x u)
  | _, _, .nil, _ => fun u hu => by cases hu
  | y :: xs, u :: us, .cons r t, f => fun u' hu => by
    rw [List.all_cons, Bool.and_eq_true] at f
    rcases List.mem_cons.mp hu with rfl | hu
    · rw [eqU_of r f.1]; exact eqAt_V r rx f.1 fx
    · exact mem_eqAt rx fx t f.2 u' hu
def inV (x : V) (xs : List V) : Bool := xs.any fun y => eqV y x
def rIn (K : PySem.W.Frag) (neg : Bool) : R2 := fun x y H Q => ∃ p xs, y = .ref p ∧ (SqL K H p xs ∨ SqT K H p xs) ∧ flatV x = true ∧ xs.all flatV = true ∧ Q (.bl (if neg then !inV x xs else inV x xs)) H
theorem op_in_seq : OpR X (compareOp .In) (rIn X.K false) := by
  intro pins s σ H x y v u Q I rx ry h
  obtain ⟨p, xs, rfl, hq, fx, fs, q⟩ := h
  cases ry
  rcases hq with hq | hq
  · obtain ⟨its, r, pl, hz⟩ := I.list hq
    refine SeqAt.in_listAt (eqU x) pl.isList (fun w hw => mem_eqAt rx fx r fs w (by simpa using hw)) ⟨.bl _, H, I, rfl, ?_⟩
    rw [show its.toArray.any (eqU x) = its.any (eqU x) by simp, any_eqU r fs]
    exact q
  · obtain ⟨its, r, pl, hz⟩ := I.tuple hq
    refine SeqAt.in_tupleAt (eqU x) pl (fun w hw => mem_eqAt rx fx r fs w (by simpa using hw)) ⟨.bl _, H, I, rfl, ?_⟩
    rw [show its.toArray.any (eqU x) = its.any (eqU x) by simp, any_eqU r fs]
    exact q
theorem call_len_seq : CallR X (.builtin "len") (fun xs H Q => ∃ p ys, xs = [.ref p] ∧ (SqL X.K H p ys ∨ SqT X.K H p ys) ∧ Q (.int ys.length) H) := by
  intro pins s σ H xs us Q I r h
  obtain ⟨p, ys, rfl, hq, q⟩ := h
  obtain ⟨u, rfl, rx⟩ := vals1 r
  cases rx
  have hn := line63
  rcases hq with hq | hq
  · obtain ⟨its, r', pl, hz⟩ := I.list hq
    have hlen := r'.length
    exact Calls.call_len_list pl.isList (by simp only [List.size_toArray] <;> omega) ⟨.int ys.length, H, I.tok _, ⟨s.toks + 1, by rw [List.size_toArray, hlen]⟩, q⟩
  · obtain ⟨its, r', pl, hz⟩ := I.tuple hq
    have hlen := r'.length
    exact len_tuple pl (by simp only [List.size_toArray] <;> omega) ⟨.int ys.length, H, I.tok _, ⟨s.toks + 1, by rw [List.size_toArray, hlen]⟩, q⟩
theorem call_len_str : CallR X (.builtin "len") (fun xs H Q => ∃ z, xs = [.str z] ∧ z.length ≤ sizeLine ∧ Q (.int z.length) H) := by
  intro pins s σ H xs us Q I r h
  obtain ⟨z, rfl, hz, q⟩ := h
  obtain ⟨u, rfl, t, rfl⟩ := vals1 r
  have hn := line63
  exact len_str (by omega) ⟨.int z.length, H, I.tok _, ⟨_, rfl⟩, q⟩
theorem CallR.or {f : Value} {r r' : List V → Hp → VK → Prop} (h : CallR X f r) (h' : CallR X f r') : CallR X f (fun xs H Q => r xs H Q ∨ r' xs H Q) := by
  intro pins s σ H xs us Q I rs q
  rcases q with q | q
  · exact h pins s σ H xs us Q I rs q
  · exact h' pins s σ H xs us Q I rs q
def tyV (K : PySem.W.Frag) (T : String) (x : V) (H : Hp) : Prop := match x with
  | .str _ => T = "str"
  | .int _ => T = "int"
  | .ref p => (T = "list" ∧ ∃ xs, SqL K H p xs) ∨ (T = "tuple" ∧ ∃ o, K.lookup p = some o ∧ o.cls = .type "tuple" ∧ o.dict = none) ∨
      (T = "dict" ∧ ((∃ kvs, H p = some (.dK kvs)) ∨ ∃ kvs, H p = some (.dT kvs))) ∨ (T = "set" ∧ ∃ S n, H p = some (.set S n))
  | _ => False
theorem tyV_is {pins : List (Addr × Obj)} {σ : St} {H : Hp} {s : Shared} {T : String} {x : V} {v : Value} (I : Inv X pins σ H s) (r : RelV x v) (ty : tyV X.K T x H) :
    s.TypeIs v T ∧ ∀ a, v = .ref a → ∃ ob, s.heap.get? a = some ob ∧ ob.dict = none := by
  cases x with
  | str z =>
    obtain ⟨t, rfl⟩ := r
    cases (show T = "str" from ty)
    exact ⟨typeIs_str s z t, fun _ e => nomatch e⟩
  | int i =>
    obtain ⟨t, rfl⟩ := r
    cases (show T = "int" from ty)
    exact ⟨typeIs_int s i t, fun _ e => nomatch e⟩
  | ref p =>
    cases r
    rcases ty with ⟨rfl, xs, hq⟩ | ⟨rfl, o, hk, hc, hd⟩ | ⟨rfl, hk⟩ | ⟨rfl, S, n, hk⟩
    · obtain ⟨its, _, pl, _⟩ := I.list hq
      refine ⟨pl.isList.typeIs, fun a e => ?_⟩
      cases e
      obtain ⟨o, n, e, c, hd, _⟩ := pl
      exact ⟨o, e, hd⟩
    · refine ⟨⟨o, I.kIn p o hk, hc⟩, fun a e => ?_⟩
      cases e
      exact ⟨o, I.kIn _ o hk, hd⟩
    · have z : ∃ o, s.heap.get? p = some o ∧ o.ExactDict := by
        rcases hk with ⟨kvs, hk⟩ | ⟨kvs, hk⟩
        · obtain ⟨_, _, _, _, o, _, _, e, ex, _⟩ := I.hok p _ hk
          exact ⟨o, e, ex⟩
        · obtain ⟨_, _, _, _, o, _, _, e, ex, _⟩ := I.hok p _ hk
          exact ⟨o, e, ex⟩
      obtain ⟨o, e, ex⟩ := z
      refine ⟨⟨o, e, ex.1⟩, fun a e2 => ?_⟩
      cases e2
      exact ⟨o, e, ex.2.1⟩
    · obtain ⟨o, _, _, _, e, ex, _⟩ := I.hok p _ hk
      refine ⟨⟨o, e, ex.1⟩, fun a e2 => ?_⟩
      cases e2
      exact ⟨o, e, ex.2.1⟩
  | _ => exact False.elim ty
def tBM (K : PySem.W.Frag) (T : String) (r : V → List V → Hp → VK → Prop) (to : TE) (t : TA) : TE := fun σ H Q => to σ H fun x H1 => tyV K T x H1 ∧ t σ H1 fun xs H2 => r x xs H2 Q
variable {o e : Expr} {es : List Expr} {to : TE} {t : TA} {name : Str} {apos cpos : Pos} {T id : String} {r : V → List V → Hp → VK → Prop}
theorem pe_bm (pa : PlainAttrs T) (slot : Slot T name id) (hty : typeOf (.builtin id) = pure (.type "method_descriptor")) (hm : MtR X id r) (ho : PE X o to) (ha : PA X (e :: es) t)
    (hbase : attributeBase o name X.env (eval o X.env) = eval o X.env := by rfl)
    (hfew : ((backTo cpos (starEach (e :: es) X.env)).all (fun x => !x.1) && (backToKw cpos (keywordEach [] X.env)).all (fun x => x.1.isSome)
      && decide ((e :: es).length + ([] : List Keyword).length + (if ([] : List Keyword).isEmpty then 0 else 1) < 30)) = true := by rfl)
    (hline : (apos.endLine == cpos.line) = true := by rfl) (hs : starEach (e :: es) X.env = (false, eval e X.env) :: starEach es X.env := by rfl) (hplain : (backTo cpos (starEach es X.env)).any (·.1) = false := by rfl) :
    PE X (.Call (.Attribute o name apos) (e :: es) [] cpos) (tBM X.K T r to t) := by
  intro pins s σ H Q I h
  refine wpAny_Call_method_late hbase hfew hline rfl (thn (ho pins s σ H _ I h) fun v s1 ⟨x, H1, I1, r1, ty, q1⟩ => ?_)
  obtain ⟨h1, h2⟩ := tyV_is I1 r1 ty
  refine ⟨T, id, pa, slot, hty, h1, h2, ?_⟩
  have hA := ha cpos pins s1 σ H1 _ I1 q1
  rw [hs] at hA ⊢
  refine Calls.callWith_builtin (by show (false || (backTo cpos (starEach es X.env)).any (·.1)) = false; rw [hplain] <;> rfl) (Calls.evalArgs_plain ?_)
  exact thn hA fun us s2 ⟨vs, H2, I2, r2, q2⟩ => hm pins s2 σ H2 x vs v us Q I2 r1 r2 q2
end
end L2
namespace L2
open PySem PySem.Spec PyProof.Rows
def MtM (X : Cx) (id : String) (r : V → List V → Hp → VK → Prop) : Prop :=
  ∀ (pins : List (Addr × Obj)) (s : Shared) (σ : St) (H : Hp) (x : V) (xs : List V) (v : Value) (us : List Value) (Q : VK), Inv X pins σ H s → RelV x v → Vals xs us → r x xs H Q →
    wpAny (model X.prog X.w) X.A (call (.builtin id) (v :: us)) (EP X pins σ Q) X.xe s
theorem Vals.one : ∀ {x : V} {us : List Value}, Vals [x] us → ∃ u, us = [u] ∧ RelV x u
  | _, _, .cons r .nil => ⟨_, rfl, r⟩
theorem Vals.two : ∀ {x y : V} {us : List Value}, Vals [x, y] us → ∃ u v, us = [u, v] ∧ RelV x u ∧ RelV y v
  | _, _, _, .cons r (.cons q .nil) => ⟨_, _, rfl, r, q⟩
theorem Vals.zero : ∀ {us : List Value}, Vals [] us → us = []
  | _, .nil => rfl
section
variable {X : Cx} {pins : List (Addr × Obj)} {σ : St} {H : Hp} {s : Shared} {l b : Addr} {xs ys zs : List V}
theorem Inv.lset {its its' : List Value} {n : Nat} {f : Array Value → Array Value} {t' : Nat} (I : Inv X pins σ H s) (hH : H l = some (.lst xs))
    (e : s.heap.get? l = some { cls := .type "list", data := .seq its.toArray n }) (hf : f its.toArray = its'.toArray) (hv : Vals ys its') (hz : ys.length ≤ sizeLine) :
    Inv X pins σ (upd H l (.lst ys)) { s with heap := s.heap.update l (Obj.mapSeq f), toks := t' } := by
  have q := PySem.IsL.update e f
  rw [hf] at q
  refine I.write (x := l) (e := l) (by rw [hH]; exact trivial) (.inl rfl) (fun b' u hb hu => (Heap.get?_update_other s.heap (Obj.mapSeq f) (Ne.symm hb)).trans hu) ⟨_, q⟩ ?_
  exact ⟨hz, its', _, hv, q⟩
theorem Inv.lnew {its : List Value} {t' : Nat} (I : Inv X pins σ H s) (hv : Vals ys its) (hz : ys.length ≤ sizeLine) :
    Inv X pins σ (upd H s.heap.objs.size (.lst ys)) { s with heap := s.heap.push { cls := .type "list", data := .seq its.toArray }, toks := t' } :=
  I.laid (fun _ _ q => Heap.get?_push_of_some _ q) (Nat.le_refl _) ⟨hz, its, 0, hv, Heap.get?_push_size _ rfl⟩
theorem Inv.fresh (I : Inv X pins σ H s) : H s.heap.objs.size = none := I.hok.fresh (Nat.le_refl _)
theorem Inv.lstM (I : Inv X pins σ H s) (hH : H l = some (.lst xs)) : xs.length ≤ sizeLine ∧ ∃ (its : List Value) (n : Nat), Vals xs its ∧ xs.length = its.length ∧ s.heap.get? l = some { cls := .type "list", data := .seq its.toArray n } := by
  obtain ⟨z, its, n, r, e⟩ := I.hok l _ hH
  exact ⟨z, its, n, r, r.length, e⟩
end
section
variable {X : Cx}
def rAppend : V → List V → Hp → VK → Prop := fun x vs H Q => ∃ l xs y, x = .ref l ∧ vs = [y] ∧ H l = some (.lst xs) ∧ xs.length < sizeLine ∧ Q .non (upd H l (.lst (xs ++ [y])))
theorem mt_append : MtM X "list.append" rAppend := by
  intro pins s σ H x vs v us Q I rx rv h
  obtain ⟨l, xs, y, rfl, rfl, hH, hz, q⟩ := h
  cases rx
  obtain ⟨u, rfl, ru⟩ := rv.one
  obtain ⟨z, its, n, r, hl, e⟩ := I.lstM hH
  refine call_meets F.slot_list_append ⟨_, e, rfl⟩ F.entry_list_append (F.args_list_append_2 _ _) (PySem.list_append l its.toArray n u (by rw [List.size_toArray]; omega)) ⟨e, ?_⟩
  refine ⟨.non, _, I.lset (its' := its ++ [u]) hH e (by simp) (r.append (.cons ru .nil)) ?_, rfl, q⟩
  rw [List.length_append, List.length_singleton]
  omega
end
section
variable {prog : Program} {w : World} {A : Around} {E : Value → Shared → Prop} {s : Shared}
end
section
variable {X : Cx}
end
end L2
namespace L2
open PySem PySem.Spec PyProof.Rows
section
variable {κ : Type} [DecidableEq κ]
def valV (kvs : List (κ × V)) (k : κ) : Option V := (kvs.find? fun kv => decide (kv.1 = k)).map (·.2)
def putK (kvs : List (κ × V)) (k : κ) (v : V) : List (κ × V) :=
  if (kvs.any fun kv => decide (kv.1 = k)) = true then kvs.map (fun kv => if kv.1 = k then (kv.1, v) else kv) else kvs ++ [(k, v)]
def dropK (kvs : List (κ × V)) (k : κ) : List (κ × V) := kvs.filter fun kv => decide (kv.1 ≠ k)
theorem valV_pos {p : κ × V} {r : List (κ × V)} {k : κ} (e : p.1 = k) : valV (p :: r) k = some p.2 := by simp [valV, List.find?_cons, e]
theorem valV_neg {p : κ × V} {r : List (κ × V)} {k : κ} (e : ¬ p.1 = k) : valV (p :: r) k = valV r k := by simp [valV, List.find?_cons, e]
theorem valV_any (k : κ) : ∀ kvs : List (κ × V), (kvs.any fun kv => decide (kv.1 = k)) = (valV kvs k).isSome
  | [] => rfl
  | p :: r => by
    rw [List.any_cons]
    by_cases e : p.1 = k
    · simp only [valV_pos e, decide_eq_true e, Bool.true_or, Option.isSome_some]
    · rw [valV_neg e, decide_eq_false e, Bool.false_or]; exact valV_any k r
theorem length_putK (kvs : List (κ × V)) (k : κ) (v : V) : (putK kvs k v).length ≤ kvs.length + 1 := by
  unfold putK
  split
  · rw [List.length_map]; omega
  · rw [List.length_append, List.length_cons, List.length_nil]; omega
theorem RelO.isSome_eq {o : Option V} {u : Option Value} (r : RelO o u) : o.isSome = u.isSome := by
  cases o with
  | none => cases u with
    | none => rfl
    | some _ => exact (show False from r).elim
  | some _ => cases u with
    | none => exact (show False from r).elim
    | some _ => rfl
theorem RelO.getD {o : Option V} {u : Option Value} {d : V} {d' : Value} (r : RelO o u) (rd : RelV d d') : RelV (o.getD d) (u.getD d') := by
  cases o with
  | none => cases u with
    | none => exact rd
    | some _ => exact (show False from r).elim
  | some _ => cases u with
    | none => exact (show False from r).elim
    | some _ => exact r
theorem KV.val {kvs : List (κ × V)} {vs : List (κ × Value)} (r : KV kvs vs) (k : κ) : RelO (valV kvs k) (valueAt vs k) := by
  unfold KV at r
  induction r with
  | nil => exact True.intro
  | @cons p q ps qs h t ih =>
    obtain ⟨h1, h2⟩ := h
    by_cases e : p.1 = k
    · have e' : q.1 = k := h1.symm.trans e
      have b : valueAt (q :: qs) k = some q.2 := by simp [valueAt, List.find?_cons, e']
      rw [valV_pos e, b]; exact h2
    · have e' : ¬ q.1 = k := fun z => e (h1.trans z)
      have b : valueAt (q :: qs) k = valueAt qs k := by simp [valueAt, List.find?_cons, e']
      rw [valV_neg e, b]; exact ih
theorem KV.any {kvs : List (κ × V)} {vs : List (κ × Value)} (r : KV kvs vs) (k : κ) : (kvs.any fun kv => decide (kv.1 = k)) = vs.any fun kv => decide (kv.1 = k) := by
  unfold KV at r
  induction r with
  | nil => rfl
  | cons h t ih => rw [List.any_cons, List.any_cons, ih, h.1]
theorem KV.repl {kvs : List (κ × V)} {vs : List (κ × Value)} (r : KV kvs vs) (k : κ) {y : V} {u : Value} (ry : RelV y u) :
    KV (kvs.map fun kv => if kv.1 = k then (kv.1, y) else kv) (vs.map fun kv => if kv.1 = k then (kv.1, u) else kv) := by
  unfold KV at r ⊢
  induction r with
  | nil => exact .nil
  | @cons p q ps qs h t ih =>
    rw [List.map_cons, List.map_cons]
    refine .cons ?_ ih
    obtain ⟨h1, h2⟩ := h
    by_cases e : p.1 = k
    · rw [if_pos e, if_pos (h1.symm.trans e)]; exact ⟨h1, ry⟩
    · rw [if_neg e, if_neg (fun z => e (h1.trans z))]; exact ⟨h1, h2⟩
theorem KV.put {kvs : List (κ × V)} {vs : List (κ × Value)} (r : KV kvs vs) (k : κ) {y : V} {u : Value} (ry : RelV y u) : KV (putK kvs k y) (stored vs k u) := by
  unfold putK stored
  rw [r.any k]
  by_cases e : (vs.any fun kv => decide (kv.1 = k)) = true
  · rw [if_pos e, if_pos e]; exact r.repl k ry
  · rw [if_neg e, if_neg e]; exact Paired.snoc r ⟨rfl, ry⟩
theorem KV.drop {kvs : List (κ × V)} {vs : List (κ × Value)} (r : KV kvs vs) (k : κ) : KV (dropK kvs k) (without vs k) := by
  unfold KV at r ⊢
  unfold dropK without
  induction r with
  | nil => exact .nil
  | @cons p q ps qs h t ih =>
    obtain ⟨h1, h2⟩ := h
    rw [List.filter_cons, List.filter_cons]
    by_cases e : p.1 = k
    · have a : ¬ decide (p.1 ≠ k) = true := by simp [e]
      have b : ¬ decide (q.1 ≠ k) = true := by simp [h1.symm.trans e]
      rw [if_neg a, if_neg b]; exact ih
    · have e' : ¬ q.1 = k := fun z => e (h1.trans z)
      have a : decide (p.1 ≠ k) = true := by simp [e]
      have b : decide (q.1 ≠ k) = true := by simp [e']
      rw [if_pos a, if_pos b]; exact .cons ⟨h1, h2⟩ ih
theorem KV.keys {kvs : List (κ × V)} {vs : List (κ × Value)} (r : KV kvs vs) : kvs.map (·.1) = vs.map (·.1) := by
  unfold KV at r
  induction r with
  | nil => rfl
  | cons h t ih => rw [List.map_cons, List.map_cons, ih, h.1]
theorem KV.length {kvs : List (κ × V)} {vs : List (κ × Value)} (r : KV kvs vs) : kvs.length = vs.length := Paired.length r
end
theorem kV_is {P : Program} {w : World} {k : Key} {u : Value} (r : RelV (kV k) u) : (mixKind P w).is k u = true := by
  cases k with
  | inl i => obtain ⟨t, e⟩ := (show ∃ t, u = Value.int i t from r); subst e; exact mixKind_int P w i t
  | inr x => obtain ⟨t, e⟩ := (show ∃ t, u = Value.str x t from r); subst e; exact mixKind_str P w x t
theorem items_are {P : Program} {w : World} : ∀ {ks : List Key} {us : List Value}, Vals (ks.map kV) us → ItemsAre (mixKind P w) ks us
  | [], _, r => by rw [List.map_nil] at r; cases r; exact .nil
  | k :: ks, _, r => by
    rw [List.map_cons] at r
    cases r with
    | cons h t => exact .cons (kV_is h) (items_are t)
abbrev KT (H : Hp) : List (List Key × V) → List (List Key × Addr × Value) → Prop := Paired fun p q => p.1 = q.1 ∧ H q.2.1 = some (.tup (p.1.map kV)) ∧ RelV p.2 q.2.2
theorem KT.val {H : Hp} {kvs : List (List Key × V)} {xs : List (List Key × Addr × Value)} (r : KT H kvs xs) (k : List Key) : RelO (valV kvs k) ((atKey xs k).map (·.2)) := by
  induction r with
  | nil => exact True.intro
  | @cons p q ps qs h t ih =>
    obtain ⟨h1, _, h2⟩ := h
    by_cases e : p.1 = k
    · have e' : q.1 = k := h1.symm.trans e
      have b : atKey (q :: qs) k = some q.2 := by simp [atKey, List.find?_cons, e']
      rw [valV_pos e, b]; exact h2
    · have e' : ¬ q.1 = k := fun z => e (h1.trans z)
      have b : atKey (q :: qs) k = atKey qs k := by simp [atKey, List.find?_cons, e']
      rw [valV_neg e, b]; exact ih
theorem KT.repl {H : Hp} {kvs : List (List Key × V)} {xs : List (List Key × Addr × Value)} (r : KT H kvs xs) (k : List Key) {y : V} {u : Value} (ry : RelV y u) :
    KT H (kvs.map fun kv => if kv.1 = k then (kv.1, y) else kv) (xs.map (putAt k u)) := by
  induction r with
  | nil => exact .nil
  | @cons p q ps qs h t ih =>
    rw [List.map_cons, List.map_cons]
    refine .cons ?_ ih
    obtain ⟨h1, h2, h3⟩ := h
    unfold putAt
    by_cases e : p.1 = k
    · rw [if_pos e, if_pos (h1.symm.trans e)]; exact ⟨h1, h2, ry⟩
    · rw [if_neg e, if_neg (fun z => e (h1.trans z))]; exact ⟨h1, h2, h3⟩
theorem KT.put {H : Hp} {kvs : List (List Key × V)} {xs : List (List Key × Addr × Value)} (r : KT H kvs xs) (k : List Key) {b : Addr} {y : V} {u : Value} (hb : H b = some (.tup (k.map kV))) (ry : RelV y u) :
    KT H (putK kvs k y) (storedH xs k b u) := by
  have e : (kvs.any fun kv => decide (kv.1 = k)) = (atKey xs k).isSome := by
    rw [valV_any, (r.val k).isSome_eq, Option.isSome_map]
  unfold putK storedH
  rw [e]
  by_cases q : (atKey xs k).isSome = true
  · rw [if_pos q, if_pos q]; exact r.repl k ry
  · rw [if_neg q, if_neg q]; exact Paired.snoc r ⟨rfl, hb, ry⟩
theorem KT.keeps {H H' : Hp} {kvs : List (List Key × V)} {xs : List (List Key × Addr × Value)} (r : KT H kvs xs) (ht : ∀ b ys, H b = some (.tup ys) → H' b = some (.tup ys)) : KT H' kvs xs :=
  Paired.mapP r fun _ _ z => ⟨z.1, ht _ _ z.2.1, z.2.2⟩
section
variable {P : Program} {w : World} {H : Hp} {h : Heap} {a : Addr}
theorem rd_of {u : HO} (ok : HOk P w H h) (e : Rd H a u) : ObjOk P w H h a u := e.ok ok
theorem dk_rd {kvs : List (Key × V)} (ok : HOk P w H h) (e : Rd H a (.dK kvs)) : kvs.length ≤ sizeLine ∧ (a == sysModules) = false ∧ ∃ vs, KV kvs vs ∧ h.DictOf (mixKind P w) a vs :=
  show ObjOk P w H h a (.dK kvs) from rd_of ok e
theorem dk_of {kvs : List (Key × V)} (ok : HOk P w H h) (e : H a = some (.dK kvs)) : kvs.length ≤ sizeLine ∧ (a == sysModules) = false ∧ ∃ vs, KV kvs vs ∧ h.DictOf (mixKind P w) a vs := dk_rd ok (.inl e)
theorem key_of {ks : List Key} (ok : HOk P w H h) (e : H a = some (.tup (ks.map kV))) : (tupleKind (mixKind P w)).is h ks a := by
  obtain ⟨_, its, r, o, h1, h2, n, h3⟩ := (show ObjOk P w H h a (.tup (ks.map kV)) from ok a _ e)
  exact ⟨o, its.toArray, n, h1, h2, h3, by simpa using items_are r⟩
theorem dt_rd {kvs : List (List Key × V)} (ok : HOk P w H h) (e : Rd H a (.dT kvs)) : kvs.length ≤ sizeLine ∧ (a == sysModules) = false ∧
    ∃ xs, KT H kvs xs ∧ h.DictOfH (tupleKind (mixKind P w)) a xs := by
  obtain ⟨z, y, xs, r, o, es, ep, h1, h2, h3, h4, h5⟩ := (show ObjOk P w H h a (.dT kvs) from rd_of ok e)
  refine ⟨z, y, xs, r, o, es, ep, h1, h2, h3, h4, fun x hx => ?_, h5⟩
  have all : ∀ {l : List (List Key × V)} {m : List (List Key × Addr × Value)}, KT H l m → ∀ x ∈ m, (tupleKind (mixKind P w)).is h x.1 x.2.1 := by
    intro l m q
    induction q with
    | nil => intro x hx; exact nomatch hx
    | @cons p q ps qs hq t ih =>
      intro x hx
      rcases List.mem_cons.mp hx with e | hx
      · subst e
        exact key_of ok (by rw [← hq.1]; exact hq.2.1)
      · exact ih x hx
  exact all r x hx
end
def DGet (H : Hp) (a : Addr) (y : V) (r : Option V) : Prop :=
  (∃ kvs k, Rd H a (.dK kvs) ∧ y = kV k ∧ r = valV kvs k) ∨ ∃ kvs k b, Rd H a (.dT kvs) ∧ y = .ref b ∧ H b = some (.tup (k.map kV)) ∧ r = valV kvs k
def DPut (H : Hp) (a : Addr) (y v : V) (H' : Hp) : Prop :=
  (∃ kvs k, H a = some (.dK kvs) ∧ y = kV k ∧ kvs.length < sizeLine ∧ H' = upd H a (.dK (putK kvs k v))) ∨
  ∃ kvs k b, H a = some (.dT kvs) ∧ y = .ref b ∧ H b = some (.tup (k.map kV)) ∧ kvs.length < sizeLine ∧ H' = upd H a (.dT (putK kvs k v))
theorem DGet.k {H : Hp} {a : Addr} {kvs : List (Key × V)} {k : Key} (e : H a = some (.dK kvs)) : DGet H a (kV k) (valV kvs k) := .inl ⟨kvs, k, .inl e, rfl, rfl⟩
theorem DGet.t {H : Hp} {a b : Addr} {kvs : List (List Key × V)} {k : List Key} (e : H a = some (.dT kvs)) (eb : H b = some (.tup (k.map kV))) : DGet H a (.ref b) (valV kvs k) := .inr ⟨kvs, k, b, .inl e, rfl, eb, rfl⟩
theorem DPut.k {H : Hp} {a : Addr} {kvs : List (Key × V)} {k : Key} {v : V} (e : H a = some (.dK kvs)) (hl : kvs.length < sizeLine) : DPut H a (kV k) v (upd H a (.dK (putK kvs k v))) := .inl ⟨kvs, k, e, rfl, hl, rfl⟩
theorem DPut.t {H : Hp} {a b : Addr} {kvs : List (List Key × V)} {k : List Key} {v : V} (e : H a = some (.dT kvs)) (eb : H b = some (.tup (k.map kV))) (hl : kvs.length < sizeLine) :
    DPut H a (.ref b) v (upd H a (.dT (putK kvs k v))) := .inr ⟨kvs, k, b, e, rfl, eb, hl, rfl⟩
section
variable {X : Cx} {pins : List (Addr × Obj)} {σ : St} {H : Hp} {s : Shared} {a : Addr} {y v : V} {u r : Value} {o : Option V} {A : Around} {E : Value → Shared → Prop}
theorem Inv.big (I : Inv X pins σ H s) : sysModules < s.heap.objs.size := by
  have h : mainGlobals < s.heap.objs.size := (I.mod.glob.keeps I.bk).lt
  exact Nat.lt_trans (by decide) h
theorem d_getItem {Q : Value → Shared → Prop} (hu : A.units + 1 < cLine) (I : Inv X pins σ H s) (g : DGet H a y (some v)) (ry : RelV y u) (h : ∀ w' s', Inv X pins σ H s' → RelV v w' → Q w' s') :
    wpAny (model X.prog X.w) A (getItem (.ref a) u) Q E s := by
  rcases g with ⟨kvs, k, e, ey, l⟩ | ⟨kvs, k, b, e, ey, eb, l⟩
  · subst ey
    obtain ⟨z, hd, vs, rel, dd⟩ := dk_rd I.hok e
    obtain ⟨w', hw, rw'⟩ := RelO.some_of (v := v) (o := valueAt vs k) (by rw [l]; exact rel.val k)
    exact wpAny_getItem_of (kV_is ry) dd.mapOf hw (h w' _ (I.tok _) rw')
  · subst ey
    cases (show u = Value.ref b from ry)
    obtain ⟨z, hd, xs, rel, dd⟩ := dt_rd I.hok e
    obtain ⟨w', hw, rw'⟩ := RelO.some_of (v := v) (o := (atKey xs k).map (·.2)) (by rw [l]; exact rel.val k)
    obtain ⟨p, hp, hp2⟩ := Option.map_eq_some_iff.mp hw
    refine wpAny_getItem_heap (tupleKind_room_in1 hu) (key_of I.hok eb) dd hp ?_
    rw [hp2]
    exact h w' _ (I.tok _) rw'
theorem d_in {Q : Value → Shared → Prop} (hu : A.units + 1 < cLine) (I : Inv X pins σ H s) (g : DGet H a y o) (ry : RelV y u) (h : ∀ s', Inv X pins σ H s' → Q (.bool o.isSome) s') :
    wpAny (model X.prog X.w) A (compareOp .In u (.ref a)) Q E s := by
  rcases g with ⟨kvs, k, e, ey, l⟩ | ⟨kvs, k, b, e, ey, eb, l⟩
  · subst ey
    obtain ⟨z, hd, vs, rel, dd⟩ := dk_rd I.hok e
    refine wpAny_in_of (kV_is ry) hd dd.mapOf ?_
    rw [← (rel.val k).isSome_eq, ← l]
    exact h _ (I.tok _)
  · subst ey
    cases (show u = Value.ref b from ry)
    obtain ⟨z, hd, xs, rel, dd⟩ := dt_rd I.hok e
    refine wpAny_in_heap (tupleKind_room_in1 hu) (key_of I.hok eb) hd dd ?_
    have q := (rel.val k).isSome_eq
    rw [Option.isSome_map] at q
    rw [← q, ← l]
    exact h _ (I.tok _)
theorem d_write {h' : Heap} {t' : Nat} {ob : HO} (I : Inv X pins σ H s) (mu : Mut (H a)) (hs : Heap.SameBut a s.heap h') (he : ∃ q, h'.get? a = some q) (new : ObjOk X.prog X.w (upd H a ob) h' a ob) :
    Inv X pins σ (upd H a ob) { s with heap := h', toks := t' } :=
  I.write (x := a) (e := a) mu (.inl rfl) (fun b q hb z => (hs.2 b hb).trans z) he new
theorem dk_new {P : Program} {w : World} {H' : Hp} {h' : Heap} {kvs : List (Key × V)} {vs : List (Key × Value)} (z : kvs.length ≤ sizeLine) (hd : (a == sysModules) = false) (rel : KV kvs vs) (dd : h'.DictOf (mixKind P w) a vs) :
    ObjOk P w H' h' a (.dK kvs) := ⟨z, hd, vs, rel, dd⟩
end
section
variable {X : Cx} {pins : List (Addr × Obj)} {σ : St} {H : Hp} {s : Shared} {a : Addr} {kvs : List (Key × V)} {k : Key} {u : Value} {A : Around} {E : Value → Shared → Prop}
end
def NoSl (i : Expr) : Prop := ∀ ov iv, subscripted i false ov iv = operate [ov, iv] (getItem ov iv)
theorem subD_of {prog : Program} {w : World} {A : Around} {E : Value → Shared → Prop} {s : Shared} {env : Env} {value slice : Expr} {pos : Pos} {T id : String} {Q : Value → Shared → Prop}
    (hl : typeLookup (.type T) "__getitem__" = pure (some (.builtin id))) (hs : NoSl slice)
    (h : wpAny (model prog w) A (eval value env) (fun o s₁ => wpAny (model prog w) A (eval slice env) (fun i s₂ => s₂.TypeIs o T ∧ wpAny (model prog w) A (getItem o i) Q E s₂) E s₁) E s) :
    wpAny (model prog w) A (eval (.Subscript value slice pos) env) Q E s := by
  refine Subscript_ (wpAny_mono h (fun o s₁ h₁ => wpAny_mono h₁ (fun i s₂ h₂ => ?_) fun _ _ x => x) fun _ _ x => x)
  obtain ⟨hT, h₂⟩ := h₂
  unfold subscriptTail
  refine wpAny_bind ?_
  rw [getitemInPython_of_ne hT.not_modules]
  refine wpAny_bind (wpAny_specialOf hT hl ?_)
  have fin : wpAny (model prog w) A (subscripted slice false o i) (fun r s₃ => wpAny (model prog w) A (letTemporaryGo value o r >>= fun _ => pure r) Q E s₃) E s₂ := by
    rw [hs o i]
    exact wpAny_operating (wpAny_mono h₂ (fun r s₃ h₃ => wpAny_bind (wpAny_letTemporaryGo (wpAny_pure h₃))) fun _ _ x => x)
  first
    | exact wpAny_pure (wpAny_bind fin)
    | exact wpAny_bind (wpAny_pure (wpAny_bind fin))
    | exact wpAny_bind fin
theorem dict_typeIs {X : Cx} {pins : List (Addr × Obj)} {σ : St} {H : Hp} {s : Shared} {a : Addr} {y : V} {o : Option V} (I : Inv X pins σ H s) (g : DGet H a y o) : s.TypeIs (.ref a) "dict" := by
  rcases g with ⟨kvs, k, e, _, _⟩ | ⟨kvs, k, b, e, _, _, _⟩
  · obtain ⟨_, _, vs, _, dd⟩ := dk_rd I.hok e
    exact dd.typeIs
  · obtain ⟨_, _, xs, _, dd⟩ := dt_rd I.hok e
    exact dd.typeIs
def tDGet (td ty : TE) : TE := fun σ H Q => td σ H fun x H1 => ty σ H1 fun y H2 => ∃ a v, x = .ref a ∧ DGet H2 a y (some v) ∧ Q v H2
def tDIn (ty td : TE) : TE := fun σ H Q => ty σ H fun y H1 => td σ H1 fun x H2 => ∃ a o, x = .ref a ∧ DGet H2 a y o ∧ Q (.bl o.isSome) H2
section
variable {X : Cx} {o i e value : Expr} {pos pos' tpos : Pos} {td ty tv : TE}
theorem pe_dget (hu : X.A.units + 1 < cLine) (ho : PE X o td) (hi : PE X i ty) (hs : NoSl i) : PE X (.Subscript o i pos) (tDGet td ty) := by
  intro pins s σ H Q I h
  refine subD_of PySem.F.slot_dict_getitem.lookup hs (thn (ho pins s σ H _ I h) fun u s1 ⟨x, H1, I1, rx, q1⟩ => thn (hi pins s1 σ H1 _ I1 q1) fun iv s2 ⟨y, H2, I2, ry, a, v, ex, g, q2⟩ => ?_)
  subst ex
  obtain rfl : u = Value.ref a := rx
  exact ⟨dict_typeIs I2 g, d_getItem hu I2 g ry fun w' s3 I3 rw' => ⟨v, H2, I3, rw', q2⟩⟩
theorem pc_din (hu : X.A.units + 1 < cLine) (hi : PE X i ty) (ho : PE X o td) : PC X .In i o (tDIn ty td) := by
  intro pins s σ H Q I h
  refine thn (hi pins s σ H _ I h) fun iv s1 ⟨y, H1, I1, ry, q1⟩ => thn (ho pins s1 σ H1 _ I1 q1) fun u s2 ⟨x, H2, I2, rx, a, ov, ex, g, q2⟩ => ?_
  subst ex
  obtain rfl : u = Value.ref a := rx
  exact d_in hu I2 g ry fun s3 I3 => ⟨.bl ov.isSome, H2, I3, rfl, q2⟩
end
theorem dk_empty {P : Program} {w : World} {H : Hp} (h : Heap) (hb : sysModules < h.objs.size) : ObjOk P w H (h.push { cls := .type "dict", data := .dict #[] }) h.objs.size (.dK []) :=
  ⟨Nat.zero_le _, beq_eq_false_iff_ne.mpr (Ne.symm (Nat.ne_of_lt hb)), [], .nil, Heap.DictOf.new h⟩
section
variable {X : Cx} {pos : Pos}
end
def tPairs : List (TE × TE) → St → Hp → (List (V × V) → Hp → Prop) → Prop
  | [], _, H, Q => Q [] H
  | (tk, tv) :: r, σ, H, Q => tk σ H fun x H1 => tv σ H1 fun y H2 => tPairs r σ H2 fun ps H3 => Q ((x, y) :: ps) H3
abbrev VV : List (V × V) → List (Value × Value) → Prop := Paired fun p q => RelV p.1 q.1 ∧ RelV p.2 q.2
def PPs (X : Cx) (pos : Pos) (keys : List (Option Expr)) (values : List Expr) (trs : List (TE × TE)) : Prop :=
  ∀ (pins : List (Addr × Obj)) (s : Shared) (σ : St) (H : Hp) (Q : List (V × V) → Hp → Prop), Inv X pins σ H s → tPairs trs σ H Q →
    wpAny (model X.prog X.w) X.A (evalPairs (pairTrees keys values X.env pos)) (fun vs s' => ∃ ps H', Inv X pins σ H' s' ∧ VV ps vs ∧ Q ps H') X.xe s
theorem pps_nil {X : Cx} {pos : Pos} : PPs X pos [] [] [] := fun pins s σ H Q I h => pairTrees_nil_walk ⟨[], H, I, .nil, h⟩
theorem pps_cons {X : Cx} {pos : Pos} {k v : Expr} {ks : List (Option Expr)} {vs : List Expr} {tk tv : TE} {trs : List (TE × TE)} (hk : PE X k tk) (hv : PE X v tv) (hr : PPs X pos ks vs trs) :
    PPs X pos (some k :: ks) (v :: vs) ((tk, tv) :: trs) := fun pins s σ H Q I h =>
  pairTrees_cons_walk (thn (hk pins s σ H _ I h) fun u s1 ⟨x, H1, I1, rx, q1⟩ => thn (hv pins s1 σ H1 _ I1 q1) fun w2 s2 ⟨y, H2, I2, ry, q2⟩ =>
    thn (hr pins s2 σ H2 _ I2 q2) fun ws s3 ⟨ps, H3, I3, rel, q3⟩ => ⟨(x, y) :: ps, H3, I3, .cons ⟨rx, ry⟩ rel, q3⟩)
def mergeK (kvs more : List (Key × V)) : List (Key × V) := more.foldl (fun acc kv => putK acc kv.1 kv.2) kvs
theorem KV.merge : ∀ {more : List (Key × V)} {rs : List (Key × Value)} {kvs : List (Key × V)} {vs : List (Key × Value)}, KV more rs → KV kvs vs → KV (mergeK kvs more) (merged vs rs) := by
  intro more rs kvs vs r
  unfold KV at r
  induction r generalizing kvs vs with
  | nil => intro q; exact q
  | @cons p q ps qs h t ih =>
    intro r0
    have e : KV (putK kvs p.1 p.2) (stored vs q.1 q.2) := by
      have := r0.put p.1 h.2
      rw [← h.1]; exact this
    exact ih e
theorem length_mergeK : ∀ (more kvs : List (Key × V)), (mergeK kvs more).length ≤ kvs.length + more.length
  | [], kvs => by show kvs.length ≤ kvs.length + 0; omega
  | p :: r, kvs => by
    have h1 := length_mergeK r (putK kvs p.1 p.2)
    have h2 := length_putK kvs p.1 p.2
    show (mergeK (putK kvs p.1 p.2) r).length ≤ _
    rw [List.length_cons]; omega
theorem carries_of {P : Program} {w : World} : ∀ {kvs : List (Key × V)} {ws : List (Value × Value)}, VV (kvs.map fun kv => (kV kv.1, kv.2)) ws → ∃ rs, Carries (mixKind P w) ws rs ∧ KV kvs rs
  | [], _, r => by rw [List.map_nil] at r; cases r; exact ⟨[], True.intro, .nil⟩
  | p :: kvs, _, r => by
    rw [List.map_cons] at r
    cases r with
    | @cons a b as bs h t =>
      obtain ⟨rs, c, q⟩ := carries_of (P := P) (w := w) t
      obtain ⟨b1, b2⟩ := b
      exact ⟨(p.1, b2) :: rs, ⟨kV_is h.1, rfl, c⟩, .cons ⟨rfl, h.2⟩ q⟩
def tDisp (trs : List (TE × TE)) : TE := fun σ H Q => ∀ p, H p = none → tPairs trs σ (upd H p (.dK [])) fun ps H2 => H2 p = some (.dK []) ∧ ∃ kvs : List (Key × V), ps = kvs.map (fun kv => (kV kv.1, kv.2)) ∧ kvs.length ≤ 15 ∧ Q (.ref p) (upd H2 p (.dK (mergeK [] kvs)))
theorem pe_disp {X : Cx} {pos : Pos} {keys : List (Option Expr)} {values : List Expr} {trs : List (TE × TE)} (h : PPs X pos keys values trs) (hall : keys.all (·.isSome) = true) (hl : keys.length = values.length) (h0 : keys ≠ [])
    (h15 : keys.length ≤ 15) : PE X (.Dict keys values pos) (tDisp trs) := by
  intro pins s σ H Q I q
  have hn := I.hok.fresh (Nat.le_refl s.heap.objs.size)
  have I1 := I.laid (a := s.heap.objs.size) (o := .dK []) (h' := s.heap.push { cls := .type "dict", data := .dict #[] }) (t' := s.toks) (fun _ _ q => Heap.get?_push_of_some _ q) (Nat.le_refl _) (dk_empty s.heap I.big)
  refine wpAny_Dict_walk (knd := mixKind X.prog X.w) hall hl h0 h15 (thn (h pins _ σ _ _ I1 (q _ hn)) fun ws s2 ⟨ps, H2, I2, rel, e, kvs, ep, lk, q2⟩ => ?_)
  subst ep
  obtain ⟨rs, c, rk⟩ := carries_of (P := X.prog) (w := X.w) rel
  obtain ⟨z, hd, vs0, r0, dd⟩ := dk_of I2.hok e
  cases r0
  refine ⟨rs, c, dd, fun h' dd' hs => ⟨.ref s.heap.objs.size, _, ?_, rfl, q2⟩⟩
  have hz : (mergeK [] kvs).length ≤ sizeLine := by
    have h1 := length_mergeK kvs []
    rw [List.length_nil] at h1
    rw [sizeLine_eq]; omega
  have he : ∃ q, h'.get? s.heap.objs.size = some q := let ⟨q, _, _, hq, _⟩ := dd'; ⟨q, hq⟩
  exact d_write I2 (by rw [e]; exact True.intro) hs he (dk_new hz hd (rk.merge .nil) dd')
structure M1 (X : Cx) (o : Expr) (m : Str) (apos : Pos) (e : Expr) (cpos : Pos) : Prop where
  base : attributeBase o m X.env (eval o X.env) = eval o X.env
  few : ((backTo cpos (starEach [e] X.env)).all (fun x => !x.1) && (backToKw cpos (keywordEach [] X.env)).all (fun x => x.1.isSome)
    && decide (([e] : List Expr).length + ([] : List Keyword).length + (if ([] : List Keyword).isEmpty then 0 else 1) < 30)) = true
  line : (apos.endLine == cpos.line) = true
  trees : backTo cpos (starEach [e] X.env) = [(false, eval e X.env)]
structure M2 (X : Cx) (o : Expr) (m : Str) (apos : Pos) (e f : Expr) (cpos : Pos) : Prop where
  base : attributeBase o m X.env (eval o X.env) = eval o X.env
  few : ((backTo cpos (starEach [e, f] X.env)).all (fun x => !x.1) && (backToKw cpos (keywordEach [] X.env)).all (fun x => x.1.isSome)
    && decide (([e, f] : List Expr).length + ([] : List Keyword).length + (if ([] : List Keyword).isEmpty then 0 else 1) < 30)) = true
  line : (apos.endLine == cpos.line) = true
  trees : backTo cpos (starEach [e, f] X.env) = [(false, eval e X.env), (false, eval f X.env)]
section
variable {X : Cx} {pins : List (Addr × Obj)} {σ : St} {H : Hp} {s : Shared} {a : Addr} {y d : V} {u r : Value} {o : Option V} {A : Around} {E : Value → Shared → Prop}
end
section
variable {X : Cx} {o e f : Expr} {apos cpos : Pos} {td ty tx : TE}
end
section
variable {X : Cx} {pins : List (Addr × Obj)} {σ : St} {H : Hp} {s : Shared} {a : Addr} {kvs : List (Key × V)} {A : Around} {E : Value → Shared → Prop}
end
section
variable {X : Cx} {pins : List (Addr × Obj)} {σ : St} {H : Hp} {s : Shared} {a : Addr} {y : V} {u : Value} {A : Around} {E : Value → Shared → Prop}
end
end L2
namespace Att
open PySem PySem.W PySem.Calls PyProof.Rows
theorem ints_of_wellAll {P : Params} {h : Heap} : ∀ (ns : List Int) (vs : List Value), WellAll P h vs (ns.map WData.int) → IntsAre vs ns := by
  intro ns
  induction ns with
  | nil =>
    intro vs w
    rw [List.map_nil] at w
    cases w
    exact .nil
  | cons n ns ih =>
    intro vs w
    rw [List.map_cons] at w
    cases w with
    | cons a b =>
      cases a
      exact .cons _ _ (ih _ b)
theorem script_of {l : OpenLaw} {n : Nat} (hn : l.most = some n) {P : Params} {h : Heap} {args : List WData} {vals : List Value}
    (hpre : l.row.toRowW.claim.pre args = true) (hwl : WellAll P h vals args) :
    ∃ a vs ns, vals = [Value.ref a] ∧ args = [WData.list (ns.map WData.int)] ∧ h.get? a = some { cls := .type "list", data := .seq vs.toArray } ∧ IntsAre vs ns ∧ ns.length ≤ n := by
  have hsh : WShape.hasAll [] args [.list .int] = true := (pre_splitW hpre).1
  have hc : l.pre.holds [] { args := args } = true := (pre_splitW hpre).2
  obtain ⟨d, r, rfl, h1, h2⟩ := hasAllW_cons hsh
  obtain rfl := hasAllW_nil h2
  obtain ⟨xs, rfl, h3⟩ := hasW_list h1
  obtain ⟨ns, rfl⟩ := items_int h3
  have hlen : ns.length ≤ n := by
    unfold OpenLaw.pre at hc
    have h4 : (WTm.not (.lt (.lit (.int (n : Int))) (.len (.arg 0)))).holds [] { args := [.list (ns.map .int)] } = true := by
      have h4 := (holds_andW hc).1
      rw [hn] at h4
      exact h4
    have h5 := condW_of h4 (w_not (w_lt w_lit (w_len_list (w_arg rfl))))
    rw [List.length_map] at h5
    refine Nat.le_of_not_lt fun q => ?_
    have q' : (n : Int) < ((ns.length : Nat) : Int) := by omega
    first
      | (rw [decide_eq_true q'] at h5; exact absurd h5 (by decide))
      | (simp at h5; omega)
  cases hwl with
  | cons w1 w2 =>
    cases w2
    cases w1 with
    | list ho hall => exact ⟨_, _, ns, rfl, rfl, ho, ints_of_wellAll ns _ hall, hlen⟩
theorem post_true (l : OpenLaw) (args : List WData) : l.row.toRowW.claim.post args (.bool true) args = true :=
  postW_of (r := l.row.toRowW) (X := (true == true))
    (show WShape.has [] (.bool true) .bool = true by first | rfl | decide | simp [WShape.has, WShape.arms, WShape.armsAll])
    (show (WTm.eq .res (.lit (.bool true))).value [] { args := args, res := some (.bool true), after := args } = some (.bool (true == true)) from w_eq_bool (w_res rfl) w_lit) rfl
theorem attach_call {l : OpenLaw} {n : Nat} {q : Program} {loose : List Str} {XP : (Str → Option Value) → Heap → Prop} {YP : World → Heap → Prop} {d : DefRec}
    (hn : l.most = some n) (hdf : d.params.defaults = [])
    (call : ∀ (w : World) (s₀ s₁ : Shared) (mg mb : Str → Option Value) (fa : Addr) (o : Obj) (pm cd doc : Value) (a : Addr) (vs : List Value) (ns : List Int),
      Ground q loose [] XP w s₀ mg mb s₁.heap → YP w s₁.heap →
      s₁.heap.get? fa = some o → o.data = .func (docDef d.name d.params d.body d.scope pm cd doc) → s₁.heap.CodeRec cd d.name → mg d.name = some (.ref fa) →
      s₁.heap.get? a = some { cls := .type "list", data := .seq vs.toArray } → IntsAre vs ns → ns.length ≤ n → s₁.gens = #[] →
      codeAny (model l.prog w) callerA (.call (.ref fa) ⟨[.ref a], []⟩) (fun r s' => r = .ok (.ret (.bool true)) ∧ OldK s₁.heap s'.heap ∧ s'.os = s₁.os ∧ AllBare s'.gens) s₁) :
    WalkO q loose XP YP l.row.toRowW d [] (fun f vs => PySem.call f vs) := by
  intro w s₀ s₁ mg mb G Y fa o pm cd doc dV kV ho hd hcd hD hmg hg args vals as hpre hlay hrd hwl hlo
  obtain rfl : dV = .none := Dflts.none hD hdf
  obtain rfl : kV = .none := Dflts.noKw hD
  obtain ⟨a, vs, ns, rfl, rfl, hobj, hints, hlen⟩ := script_of hn hpre hwl
  refine enter_call (codeAny_mono (call w s₀ s₁ mg mb fa o pm cd doc a vs ns G Y ho (fd_plain hd) hcd hmg hobj hints hlen hg) fun r s' hq => ?_)
  obtain ⟨rfl, h2, h3, h4⟩ := hq
  exact ⟨.inl ⟨.bool true, .bool true, [], rfl, fun _ => rfl, .bool true, post_true l _, fun _ => ⟨List.Pairwise.nil, fun _ hm => (nomatch hm)⟩⟩, h2, h3, h4⟩
section
variable {prog : Program} {w : World} {A : Around} {E : Value → Shared → Prop} {s : Shared} {K : Frag}
end
end Att
namespace L2
open PySem PySem.Spec PyProof.Rows
theorem vals_ints : ∀ {vs : List Value} {ns : List Int}, IntsAre vs ns → Vals (ns.map V.int) vs
  | _, _, .nil => .nil
  | _, _, .cons n t h => .cons ⟨t, rfl⟩ (vals_ints h)
end L2
namespace L2
open PySem PySem.Spec PyProof.Rows
end L2
namespace L2
open PySem PySem.Spec PyProof.Rows
def inClass (s : Stmt) (j : Nat) : Stmt := match s with
  | .ClassDef _ _ _ body _ _ _ _ _ _ _ => body.getD j (.Pass ⟨0, 0, 0, 0⟩)
  | _ => .Pass ⟨0, 0, 0, 0⟩
def defArgs (s : Stmt) : Arguments := match s with
  | .FunctionDef _ a _ _ _ _ _ _ _ _ => a
  | _ => { posonlyargs := [], args := [], vararg := none, kwonlyargs := [], kw_defaults := [], kwarg := none, defaults := [] }
def defBody (s : Stmt) : List Stmt := match s with
  | .FunctionDef _ _ b _ _ _ _ _ _ _ => b
  | _ => []
def defScope (s : Stmt) : Scope := match s with
  | .FunctionDef _ _ _ _ _ _ sc _ _ _ => sc
  | _ => { kind := .function, names := [], isGenerator := false, isCoroutine := false }
abbrev CX0 : CXT := fun _ _ _ _ _ _ => False
abbrev E0 : XK := fun _ _ _ => False
structure Fun (K : PySem.W.Frag) (x qual : Str) (st : Stmt) (f : Addr) (fd : FuncData) : Prop where
  ex : ∃ (oc : Value) (od : Option Addr) (kV doc pm : Value) (an : Option Addr) (cdv ct : Value) (osl : Array (Option Value)),
    fd = PySem.W.fnOf x qual (defArgs st) (defBody st) (defScope st) .none kV doc pm an cdv ct ∧ K.lookup f = some ⟨oc, od, .func fd, osl⟩ ∧ PySem.W.codeIn K cdv qual = true
  kp : PySem.W.keepIn K (.ref f) = true
section
variable {P : Program} {w : World} {K : PySem.W.Frag} {mg : Str → Option Value} {base : Heap}
theorem Fun.ok {x qual : Str} {st : Stmt} {f : Addr} {fd : FuncData} {N ps : List Str} {k : Nat} {sp : Sp} (F : Fun K x qual st f fd) (S : FnScope N ps (defScope st)) (len : ∀ vs H Q E, sp vs H Q E → vs.length = ps.length)
    (hbody : ∀ (cdv : Value) (A : Around) (outer : List Env) (s : Shared) (H : Hp) (vs : List V) (Q : VK) (E : XK), Room k (A.deeper (envOfC qual (defScope st) s.heap.objs.size f cdv)) → sp vs H Q E →
      ∃ t, PSs (cxOf CX0 P w K mg base N qual (defScope st) f cdv A outer s H E).nox (defBody st) t ∧ t { nx := fun _ H' => Q .non H', rt := Q } (start N vs) H) : FnOk P w K mg base CX0 (k + 1) f fd ps sp := by
  obtain ⟨oc, od, kV, doc, pm, an, cdv, ct, osl, rfl, lk, hcd⟩ := F.ex
  refine fn_of lk hcd S len fun A outer s H vs Q E hr hsp => ?_
  obtain ⟨t, h, q⟩ := hbody cdv A outer s H vs Q E hr hsp
  exact ⟨t, h.nox, q⟩
theorem Fun.binds {x qual : Str} {st : Stmt} {f : Addr} {fd : FuncData} {ps : List Str} (F : Fun K x qual st f fd)
    (h : ∀ (kV doc pm : Value) (an : Option Addr) (cdv ct : Value) (us : List Value), us.length = ps.length → bindArgs (PySem.W.fnOf x qual (defArgs st) (defBody st) (defScope st) .none kV doc pm an cdv ct) ⟨us, []⟩ = pure (ps.zip us)) : Binds K fd ps [] := by
  obtain ⟨oc, od, kV, doc, pm, an, cdv, ct, osl, rfl, lk, hcd⟩ := F.ex
  exact .all (h kV doc pm an cdv ct)
theorem fun_mk {x qual : Str} {st : Stmt} {f : Addr} {oc : Value} {od an : Option Addr} {osl : Array (Option Value)} {kV doc pm cdv ct : Value} (l : K.lookup f = some ⟨oc, od, .func (PySem.W.fnOf x qual (defArgs st) (defBody st) (defScope st) .none kV doc pm an cdv ct), osl⟩)
    (c : PySem.W.codeIn K cdv qual = true) (k : PySem.W.keepIn K (.ref f) = true) : Fun K x qual st f (PySem.W.fnOf x qual (defArgs st) (defBody st) (defScope st) .none kV doc pm an cdv ct) := ⟨⟨oc, od, kV, doc, pm, an, cdv, ct, osl, rfl, l, c⟩, k⟩
end
theorem hu_of {A : Around} {k : Nat} (hr : Room k A) : A.units + 1 < cLine := Nat.lt_of_le_of_lt (Nat.add_le_add_left (by decide : 1 ≤ 64) _) hr.units
theorem small1000 {n : Nat} (h : n ≤ 1000) : n < sizeLine := Nat.lt_of_le_of_lt h (by decide)
section
variable {X : Cx}
theorem pv (i : Nat) {x : Str} {pos : Pos} (hN : X.N[i]? = some x := by rfl) (hv : Vis X.env.scope x := by first | exact Or.inl rfl | exact Or.inr (Or.inl rfl) | exact Or.inr (Or.inr rfl)) (hd : (x == ("__debug__" : Str)) = false := by decide)
    (hcd : (x == ("__classdict__" : Str)) = false := by decide) : PE X (.Name x pos) (tVar i) := pe_var hN hv hd hcd
end
theorem iteF {A B : Prop} (h : B) : if false = true then A else B := by
  rw [if_neg Bool.false_ne_true]
  exact h
theorem iteT {A B : Prop} (h : A) : if true = true then A else B := by
  rw [if_pos rfl]
  exact h
theorem ite2 {c A B : Prop} [Decidable c] (h1 : c → A) (h2 : ¬ c → B) : if c then A else B := by
  by_cases h : c
  · rw [if_pos h]
    exact h1 h
  · rw [if_neg h]
    exact h2 h
def Same (H H' : Hp) : Prop := ∀ b o, H b = some o → H' b = some o
theorem Same.refl (H : Hp) : Same H H := fun _ _ h => h
theorem Same.trans {H H1 H2 : Hp} (a : Same H H1) (b : Same H1 H2) : Same H H2 := fun c o h => b c o (a c o h)
theorem Same.free {H H' : Hp} (e : Same H H') {l : Addr} (h : H' l = Option.none) : H l = Option.none := by
  cases q : H l with
  | none => rfl
  | some o =>
    rw [e l o q] at h
    cases h
theorem Same.seq {K : PySem.W.Frag} {H H' : Hp} {a : Addr} {xs : List V} (e : Same H H') (h : SqL K H a xs) : SqL K H' a xs := by
  rcases h with (h | ⟨o, h⟩) | h
  · exact .inl (.inl (e _ _ h))
  · exact .inl (.inr ⟨o, e _ _ h⟩)
  · exact .inr h
section
variable {κ : Type} [DecidableEq κ]
end
end L2
set_option Elab.async false
set_option linter.all false
set_option maxRecDepth 100000
set_option maxHeartbeats 4000000
namespace L2
open PySem PySem.Spec PyProof.Rows
def clGo (env : Env) : List (Str × NameKind) → List (Str × Addr) → List (Str × Addr)
  | [], cs => cs
  | (n, k) :: r, cs => clGo env r (if k = NameKind.free then (n, (env.cells.lookup n).getD 0) :: cs else cs)
def clOf (scope : Scope) (env : Env) : List (Str × Addr) := clGo env scope.names []
def freeOk (scope : Scope) (env : Env) : Bool := scope.names.all fun p => p.2 != NameKind.free || (env.kindOf p.1 == some NameKind.cell || env.kindOf p.1 == some NameKind.free)
theorem clGo_run {env : Env} : ∀ (l : List (Str × NameKind)) (cs : List (Str × Addr)), (∀ p ∈ l, p.2 = NameKind.free → ∃ c, env.cells.lookup p.1 = some c) →
    (forIn l cs fun (x : Str × NameKind) (r : List (Str × Addr)) =>
      (if (x.2 == NameKind.free) = true then (do let c ← cellOf env x.1; pure (ForInStep.yield ((x.1, c) :: r))) else pure (ForInStep.yield r) : Sem (ForInStep (List (Str × Addr))))) = pure (clGo env l cs)
  | [], cs, _ => rfl
  | (n, k) :: r, cs, h => by
    rw [List.forIn_cons]
    by_cases e : k = NameKind.free
    · subst e
      obtain ⟨c, hc⟩ := h (n, .free) List.mem_cons_self rfl
      have hc' : env.cells.lookup n = some c := hc
      have q : cellOf env n = pure c := by unfold cellOf; rw [hc']
      simp only [beq_self_eq_true, if_true, q, pure_bind]
      rw [clGo_run r _ fun p hp => h p (List.mem_cons_of_mem _ hp)]
      simp [clGo, hc']
    · have e' : (k == NameKind.free) = false := by simpa using e
      simp only [e', Bool.false_eq_true, if_false, pure_bind]
      rw [clGo_run r _ fun p hp => h p (List.mem_cons_of_mem _ hp)]
      simp [clGo, e]
theorem closure_run {scope : Scope} {env : Env} (h : ∀ p ∈ scope.names, p.2 = NameKind.free → ∃ c, env.cells.lookup p.1 = some c) : closureFor scope env = pure (clOf scope env) := by
  have q := clGo_run (env := env) scope.names [] h
  have e : closureFor scope env = ((forIn scope.names [] fun (x : Str × NameKind) (r : List (Str × Addr)) =>
      (if (x.2 == NameKind.free) = true then (do let c ← cellOf env x.1; pure (ForInStep.yield ((x.1, c) :: r))) else pure (ForInStep.yield r) : Sem (ForInStep (List (Str × Addr))))) >>= fun cs => pure cs) := rfl
  rw [e, q, pure_bind]
  rfl
theorem clGo_look {env : Env} {x : Str} {c : Addr} (hc : env.cells.lookup x = some c) : ∀ (l : List (Str × NameKind)) (cs : List (Str × Addr)),
    ((x, NameKind.free) ∈ l ∨ cs.lookup x = some c) → (clGo env l cs).lookup x = some c
  | [], cs, h => by
    rcases h with h | h
    · exact absurd h (by simp)
    · exact h
  | (n, k) :: r, cs, h => by
    show (clGo env r _).lookup x = some c
    refine clGo_look hc r _ ?_
    rcases h with h | h
    · rcases List.mem_cons.mp h with e | e
      · cases e
        refine .inr ?_
        rw [if_pos rfl, List.lookup_cons, hc]
        simp
      · exact .inl e
    · refine .inr ?_
      by_cases e : k = NameKind.free
      · rw [if_pos e, List.lookup_cons]
        by_cases en : x = n
        · subst en; simp [hc]
        · have : (x == n) = false := by simpa using en
          rw [this]; exact h
      · rw [if_neg e]; exact h
theorem clGo_from {env : Env} {x : Str} {c : Addr} : ∀ (l : List (Str × NameKind)) (cs : List (Str × Addr)),
    (∀ p ∈ l, p.2 = NameKind.free → ∃ c, env.cells.lookup p.1 = some c) → (clGo env l cs).lookup x = some c → env.cells.lookup x = some c ∧ (x, NameKind.free) ∈ l ∨ cs.lookup x = some c
  | [], cs, _, h => .inr h
  | (n, k) :: r, cs, hl, h => by
    have h : (clGo env r (if k = NameKind.free then (n, (env.cells.lookup n).getD 0) :: cs else cs)).lookup x = some c := h
    rcases clGo_from r _ (fun p hp => hl p (List.mem_cons_of_mem _ hp)) h with ⟨a, b⟩ | q
    · exact .inl ⟨a, List.mem_cons_of_mem _ b⟩
    · by_cases e : k = NameKind.free
      · rw [if_pos e, List.lookup_cons] at q
        by_cases en : x = n
        · subst en
          subst e
          obtain ⟨c', hc'⟩ := hl (x, .free) List.mem_cons_self rfl
          have hc' : env.cells.lookup x = some c' := hc'
          rw [hc'] at q
          simp at q
          subst q
          exact .inl ⟨hc', List.mem_cons_self⟩
        · have : (x == n) = false := by simpa using en
          rw [this] at q
          exact .inr q
      · rw [if_neg e] at q
        exact .inr q
theorem freeOk_mem {scope : Scope} {env : Env} (h : freeOk scope env = true) {p : Str × NameKind} (hp : p ∈ scope.names) (hf : p.2 = NameKind.free) : env.kindOf p.1 = some NameKind.cell ∨ env.kindOf p.1 = some NameKind.free := by
  have q := List.all_eq_true.mp h p hp
  rw [hf] at q
  simpa using q
def cxC (X : Cx) (scope : Scope) (N' : List Str) (s : Shared) (H : Hp) (C : Addr) (fp : List Addr) : Cx :=
  { X with N := N', s₀ := s, H₀ := H, env := compEnvC scope (clOf scope X.env) C X.env, outer := X.stack, ex := fp, fn := fun _ => false, pn := [], xe := fun _ _ => False }
def seeσ (fm : List (Option Nat)) (σ : St) : St := fm.map fun o => o.bind fun i => (σ[i]?).join
structure CompSc (X : Cx) (scope : Scope) (N' : List Str) (fm : List (Option Nat)) : Prop where
  kind : scope.kind = .function
  cell : ∀ y ∈ scope.names, y.2 ≠ .cell
  names : ∀ y ∈ scope.names, y.2 = .local → scope.names.lookup y.1 = some .local
  free : freeOk scope X.env = true
  len : N'.length = fm.length
  map : ((N'.zip fm).all fun p => match p.2 with | none => true | some i => (X.N[i]? == some p.1) && (scope.names.lookup p.1 == some NameKind.free)) = true
theorem lookup_relabel {env : Env} {k : NameKind} {x : Str} : ∀ {names : List (Str × NameKind)}, (names.map fun (n, k) => if (k == NameKind.free && env.scope.kind == .function && env.kindOf n == some .cell) then (n, NameKind.cell) else (n, k)).lookup x = some k →
    names.lookup x = some k ∨ (names.lookup x = some NameKind.free ∧ k = NameKind.cell)
  | [], h => by simp at h
  | (n, j) :: r, h => by
    have ih := @lookup_relabel env k x r
    have h : List.lookup x ((if (j == NameKind.free && env.scope.kind == .function && env.kindOf n == some .cell) = true then (n, NameKind.cell) else (n, j)) :: (r.map fun (n, k) => if (k == NameKind.free && env.scope.kind == .function && env.kindOf n == some .cell) then (n, NameKind.cell) else (n, k))) = some k := h
    by_cases hc : (j == NameKind.free && env.scope.kind == .function && env.kindOf n == some .cell) = true
    · rw [if_pos hc, List.lookup_cons] at h
      rw [List.lookup_cons]
      cases hx : x == n with
      | true =>
        rw [hx] at h
        simp at h
        refine .inr ⟨?_, h.symm⟩
        have : (j == NameKind.free) = true := by
          simp only [Bool.and_eq_true] at hc
          exact hc.1.1
        have e : j = NameKind.free := by simpa using this
        rw [e]
      | false =>
        rw [hx] at h
        exact ih h
    · rw [if_neg hc, List.lookup_cons] at h
      rw [List.lookup_cons]
      cases hx : x == n with
      | true => rw [hx] at h; exact .inl h
      | false => rw [hx] at h; exact ih h
theorem relabel_free {env : Env} {x : Str} : ∀ {names : List (Str × NameKind)}, names.lookup x = some NameKind.free →
    (names.map fun (n, k) => if (k == NameKind.free && env.scope.kind == .function && env.kindOf n == some .cell) then (n, NameKind.cell) else (n, k)).lookup x = some .cell ∨
    (names.map fun (n, k) => if (k == NameKind.free && env.scope.kind == .function && env.kindOf n == some .cell) then (n, NameKind.cell) else (n, k)).lookup x = some .free
  | [], h => by simp at h
  | (n, j) :: r, h => by
    have ih := @relabel_free env x r
    show List.lookup x ((if (j == NameKind.free && env.scope.kind == .function && env.kindOf n == some .cell) = true then (n, NameKind.cell) else (n, j)) :: _) = _ ∨ List.lookup x ((if (j == NameKind.free && env.scope.kind == .function && env.kindOf n == some .cell) = true then (n, NameKind.cell) else (n, j)) :: _) = _
    rw [List.lookup_cons] at h
    cases hx : x == n with
    | true =>
      rw [hx] at h
      have e : j = NameKind.free := by simpa using h
      by_cases hc : (j == NameKind.free && env.scope.kind == .function && env.kindOf n == some .cell) = true
      · rw [if_pos hc]; exact .inl (by rw [List.lookup_cons, hx])
      · rw [if_neg hc]; exact .inr (by rw [List.lookup_cons, hx, e])
    | false =>
      rw [hx] at h
      by_cases hc : (j == NameKind.free && env.scope.kind == .function && env.kindOf n == some .cell) = true
      · rw [if_pos hc, List.lookup_cons, hx]; exact ih h
      · rw [if_neg hc, List.lookup_cons, hx]; exact ih h
theorem mem_of_look {α : Type} {x : Str} {k : α} : ∀ {l : List (Str × α)}, l.lookup x = some k → (x, k) ∈ l := fun h => PySem.mem_of_lookup h
section
variable {X : Cx} {pins : List (Addr × Obj)} {σ : St} {H H' : Hp} {s : Shared} {scope : Scope} {N' : List Str} {fm : List (Option Nat)} {fp : List Addr} {h' : Heap} {tk : Nat}
theorem CompSc.cells (S : CompSc X scope N' fm) (I : Inv X pins σ H s) : ∀ p ∈ scope.names, p.2 = NameKind.free → ∃ c, X.env.cells.lookup p.1 = some c := fun p hp hf => I.ok.has p.1 (freeOk_mem S.free hp hf)
theorem CompSc.look (S : CompSc X scope N' fm) (I : Inv X pins σ H s) {x : Str} {c : Addr} (h : (clOf scope X.env).lookup x = some c) : X.env.cells.lookup x = some c ∧ (x, NameKind.free) ∈ scope.names := by
  rcases clGo_from scope.names [] (S.cells I) h with q | q
  · exact q
  · simp at q
theorem comp_start (S : CompSc X scope N' fm) (I : Inv X pins σ H s) (hf : ∀ b ∈ fp, FpOk X pins H b) (hfs : ∀ b ∈ fp, b < s.heap.objs.size)
    (hn : h'.Ns s.heap.objs.size fun _ => none) (hk : ∀ b o, s.heap.get? b = some o → h'.get? b = some o) : Inv (cxC X scope N' s H s.heap.objs.size fp) [] (seeσ fm σ) H { s with heap := h', toks := tk } := by
  have cl : ∀ {x c}, (clOf scope X.env).lookup x = some c → X.env.cells.lookup x = some c ∧ (x, NameKind.free) ∈ scope.names := fun h => S.look I h
  have ltc : ∀ x c, X.env.cells.lookup x = some c → c < s.heap.objs.size := fun x c e => by
    obtain ⟨v, q⟩ := I.cell x c e
    exact q.lt
  refine ⟨⟨I.ok.mod, ?_, I.ok.glob, I.ok.blt, Nat.le_refl _, fun x y c h1 h2 => I.ok.inj x y c (cl h1).1 (cl h2).1, fun x hx => ?_, fun x c h _ => absurd (show false = true from h) (by decide), I.ok.hd, I.ok.frames, .inl rfl, fun b hb => ⟨Nat.ne_of_lt (hfs b hb), fun x c e z => ?_⟩, I.bs, Nat.le_trans I.ok.bsz I.sz, fun b o e hb => ?_, fun b hb z => ?_, I.stack, I.stkFree⟩,
    rfl, I.bare, Un.kept hk, ⟨_, hn, fun i x v e1 e2 e3 => ?_⟩, fun x c e => ?_, I.hok.fresh (Nat.le_refl _), fun x c e => I.freeC x c (cl e).1, fun p hp => absurd (show p ∈ ([] : List (Addr × Obj)) from hp) (by simp), I.hok.kept hk, ?_⟩
  · exact S.kind
  · -- a cell for each name
    have hx : (relabel scope X.env).names.lookup x = some .cell ∨ (relabel scope X.env).names.lookup x = some .free := hx
    have fr : scope.names.lookup x = some .free := by
      rcases hx with hx | hx
      · rcases lookup_relabel hx with q | q
        · exact absurd rfl (S.cell _ (mem_of_look q))
        · exact q.1
      · rcases lookup_relabel hx with q | q
        · exact q
        · exact q.1
    have m := mem_of_look fr
    obtain ⟨c, hc⟩ := S.cells I (x, .free) m rfl
    exact ⟨c, clGo_look hc _ _ (.inl m)⟩
  · exact (hf b hb).2.2.2.2.1 x c (cl e).1 z
  · rcases (hf b hb).2.2.2.1 with z | z
    · exact I.ok.noex b o e z
    · exact absurd (Nat.lt_of_lt_of_le (Heap.lt_size (I.ok.bs b o e).1) z) (Nat.lt_irrefl _)
  · rcases List.mem_cons.mp (I.stkSub b z) with q | q
    · exact (hf b hb).2.1 q
    · exact (hf b hb).2.2.1 q
  · -- a name of the def, seen in the block
    have e1 : N'[i]? = some x := e1
    have il : i < fm.length := by rw [← S.len]; exact (List.getElem?_eq_some_iff.mp e1).1
    have ef : fm[i]? = some fm[i] := by simp [il]
    unfold seeσ at e2
    rw [List.getElem?_map, ef] at e2
    cases q : fm[i] with
    | none => rw [q] at e2; simp at e2
    | some j =>
      rw [q] at e2 ef
      have e2 : (σ[j]?).join = some v := by simpa using e2
      have e2' : σ[j]? = some (some v) := by
        cases z : σ[j]? with
        | none => rw [z] at e2; simp at e2
        | some w => rw [z] at e2; simp at e2; rw [e2]
      have mz : (x, some j) ∈ N'.zip fm := by
        have : (N'.zip fm)[i]? = some (x, some j) := by rw [List.getElem?_zip_eq_some]; exact ⟨e1, ef⟩
        exact List.mem_of_getElem? this
      have ok := List.all_eq_true.mp S.map _ mz
      simp only [Bool.and_eq_true, beq_iff_eq] at ok
      have kx := freeOk_mem S.free (mem_of_look ok.2) rfl
      obtain ⟨m, hm, hl⟩ := I.loc
      obtain ⟨u, ru, lk⟩ := hl j x v ok.1 e2' (by rcases kx with k | k; exact .inr (.inl k); exact .inr (.inr k))
      refine ⟨u, ru, .inr ?_⟩
      rcases lk with ⟨k, _⟩ | ⟨_, c, hc, ⟨o, ho, hd⟩⟩
      · rcases kx with z | z
        · rw [z] at k; cases k
        · rw [z] at k; cases k
      · exact ⟨relabel_free ok.2, c, clGo_look hc _ _ (.inl (mem_of_look ok.2)), o, hk _ _ ho, hd⟩
  · obtain ⟨v, o, ho, hd⟩ := I.cell x c (cl e).1
    exact ⟨v, o, hk _ _ ho, hd⟩
  · show (seeσ fm σ).length = N'.length
    unfold seeσ
    rw [List.length_map, S.len]
theorem comp_back {σ' : St} {s1 s2 : Shared} {p1 : List (Addr × Obj)} (I : Inv X pins σ H s) (hf : ∀ b ∈ fp, FpOk X pins H b) (J : Inv (cxC X scope N' s H s.heap.objs.size fp) p1 σ' H' s1) (hs : s2.os = s1.os) (hg : AllBare s2.gens)
    (hh : Heap.SameBut s.heap.objs.size s1.heap s2.heap) : Inv X pins σ H' s2 := by
  have un : Un (frs X.stack) fp H H' s.heap s1.heap := J.base
  have hne : ∀ b o, s.heap.get? b = some o → b ≠ s.heap.objs.size := fun b o e => Nat.ne_of_lt (Heap.lt_size e)
  have free' : H' s.heap.objs.size = none := J.free
  refine I.call' (ch := fp) (hs.trans J.os) ⟨fun b o e n hb hx => ?_, fun b o e n hb hx => ?_, un.free, fun b o e hx => ?_, un.tups, un.frzs, un.tbls⟩ (fun b o e => ?_) hg fun b hb => ?_
  · exact (hh.2 b (hne b o e)).trans (un.keep b o e n hb hx)
  · obtain ⟨sl, q⟩ := un.slot b o e n hb hx
    exact ⟨sl, (hh.2 b (hne b o e)).trans q⟩
  · obtain ⟨o', q⟩ := un.there b o e hx
    exact ⟨o', (hh.2 b (hne b o e)).trans q⟩
  · refine (J.hok b o e).stay (fun c v hc q => (hh.2 c ?_).trans q) (fun _ q => q) fun _ _ q => q
    rintro rfl
    rcases hc with z | z
    · rw [← z, free'] at e; cases e
    · rw [free'] at z; cases z
  · obtain ⟨_, f1, _, f3, f4, f5⟩ := hf b hb
    exact ⟨f3, f1, f4, f5⟩
end
end L2
set_option Elab.async false
set_option linter.all false
set_option maxRecDepth 100000
set_option maxHeartbeats 4000000
namespace L2
open PySem PySem.Spec PyProof.Rows
def PIfs (X : Cx) (ifs : List Expr) (t : TT) : Prop :=
  ∀ (pins : List (Addr × Obj)) (s : Shared) (σ : St) (H : Hp) (Q : Bool → Hp → Prop), Inv X pins σ H s → t σ H Q →
    wpAny (model X.prog X.w) X.A (forIn ifs true fun c r => if r = true then do let ok ← isTrue c X.env (eval c X.env); pure (ForInStep.yield ok) else pure (ForInStep.yield r)) (TP X pins σ Q) X.xe s
def tAll : TT := fun _ H Q => Q true H
theorem pif_nil {X : Cx} : PIfs X [] tAll := fun _ _ _ H _ I h => wpAny_tests_nil ⟨H, I, h⟩
def tBlk (J : It) (p : Addr) (g : TG) (tt : TT) (te : TE) (σ0 : St) (H0 : Hp) (Q : Hp → Prop) : Prop :=
  ∃ W : Nat → Nat → St → Hp → Prop, (∃ m, W 0 m σ0 H0) ∧ ∀ i m σ H, W i m σ H →
    (J.stop i H ∧ Q H) ∨ (J.go i H ∧ ∃ N : St → Hp → Prop, (∀ σ' H', N σ' H' → ∃ m', m' < m ∧ W (i + 1) m' σ' H') ∧ ∀ x H1, J.yld i H x H1 → g x σ H1 fun σ2 H2 => tt σ2 H2 fun b H3 =>
      if b = true then te σ2 H3 fun v H4 => ∃ ys, H4 p = some (.lst ys) ∧ ys.length < sizeLine ∧ N σ2 (upd H4 p (.lst (ys ++ [v])))
      else N σ2 H3)
def tComp (fm : List (Option Nat)) (wi : TI) (g : TG) (tt : TT) (te : TE) : TE := fun σ H Q => wi σ H fun J H1 => ∀ p, H1 p = none →
  tBlk J p g tt te (seeσ fm σ) (upd H1 p (.lst [])) fun H2 => Q (.ref p) H2
section
variable {X : Cx} {elt iter tg : Expr} {ifs : List Expr} {scope : Scope} {pos : Pos} {N' : List Str} {fm : List (Option Nat)} {wi : TI} {g : TG} {tt : TT} {te : TE}
theorem comp_loop {R : Result → Shared → Prop} {pins : List (Addr × Obj)} {σ : St} {H : Hp} {s s1 : Shared} {it p C : Addr} {fp : List Addr} {tn : Nat → Heap → Prop} {J : It} {Q : Hp → Prop} {H0 : Hp} {σ0 : St}
    (hc : X.calm = true) (hg : PG (cxC X scope N' s H C fp) tg g) (ht : PIfs (cxC X scope N' s H C fp) ifs tt) (he : PE (cxC X scope N' s H C fp) elt te)
    (T : Turn X.prog X.w X.K tg J fp it tn) (hfp : ∀ {H' : Hp}, (∀ b ∈ fp, H' b = none) → ∀ b ∈ fp, FpOk (cxC X scope N' s H C fp) [] H' b)
    (I : Inv (cxC X scope N' s H C fp) [] σ0 H0 s1) (st : tn 0 s1.heap) (hfr : ∀ b ∈ fp, H0 b = none) (blk : tBlk J p g tt te σ0 H0 Q)
    (hR : ∀ σ' H' s', Inv (cxC X scope N' s H C fp) [] σ' H' s' → Q H' → R (.ok .next) s') :
    codeAny (model X.prog X.w) X.A (.compLoop (.ListComp elt [⟨tg, iter, ifs, 0⟩] scope pos) 0 (.ref it) (.ref p) (compEnvC scope (clOf scope X.env) C X.env)) R s1 := by
  obtain ⟨W, ⟨m0, w0⟩, turn⟩ := blk
  refine codeAny_loop rfl (fun n s' => ∃ i σ' H', Inv (cxC X scope N' s H C fp) [] σ' H' s' ∧ tn i s'.heap ∧ (∀ b ∈ fp, H' b = none) ∧ W i n σ' H') (fun n s2 hI => ?_) m0 ⟨0, σ0, H0, I, st, hfr, w0⟩
  obtain ⟨i, σ2, H2, I2, st2, fr2, w2⟩ := hI
  show wpAny _ X.A ((compTurn (.ListComp elt [⟨tg, iter, ifs, 0⟩] scope pos) 0 (.ref it) (.ref p) (compEnvC scope (clOf scope X.env) C X.env)).onRaise fun x => do noteFrame x (compEnvC scope (clOf scope X.env) C X.env); theTreesLotGoes x) _ _ s2
  refine wpAny_noted ?_
  rw [compTurn_list]
  have lift : ∀ {α : Type} {t : Sem α} {Q1 Q2 : α → Shared → Prop} {E2 : Value → Shared → Prop} {s' : Shared}, wpAny (model X.prog X.w) X.A t Q1 (fun _ _ => False) s' → (∀ a s'', Q1 a s'' → Q2 a s'') → wpAny (model X.prog X.w) X.A t Q2 E2 s' :=
    fun h k => wpAny_mono h k fun _ _ z => z.elim
  rcases turn i n σ2 H2 w2 with ⟨stop, qn⟩ | ⟨go, N, hN, step⟩
  · refine wpAny_bind (wpAny_standAt (wpAny_bind (lift (T.done (cxC X scope N' s H C fp) rfl rfl rfl hc i [] s2 σ2 H2 _ I2 (hfp fr2) st2 stop) fun r s3 q => ?_)))
    obtain ⟨hr, I3⟩ := q
    subst hr
    exact wpAny_pure (hR σ2 H2 s3 I3 qn)
  · refine wpAny_bind (wpAny_standAt (wpAny_bind (lift (T.item (cxC X scope N' s H C fp) rfl rfl rfl hc i [] s2 σ2 H2 _ I2 (hfp fr2) st2 go) fun r s3 q => ?_)))
    obtain ⟨u, hr, h3⟩ := q
    subst hr
    refine wpAny_bind (lift h3 fun _ s4 q4 => ?_)
    obtain ⟨x, H4, I4, r4, y4, st4, fr4⟩ := q4
    have I4' := I4.pinned (hfp fr4) (T.obj _ _ st4)
    refine wpAny_bind (lift (hg _ s4 σ2 H4 x u _ I4' r4 (step x H4 y4)) fun _ s5 q5 => ?_)
    obtain ⟨σ5, H5, I5, q5⟩ := q5
    refine wpAny_bind (lift (ht _ s5 σ5 H5 _ I5 q5) fun b s6 q6 => ?_)
    obtain ⟨H6, I6, q6⟩ := q6
    have again : ∀ {σ7 : St} {H7 : Hp} {s7 : Shared} {m' : Nat}, Inv (cxC X scope N' s H C fp) ([] ++ pinsAt fp s4.heap) σ7 H7 s7 → W (i + 1) m' σ7 H7 →
        ∃ i σ' H', Inv (cxC X scope N' s H C fp) [] σ' H' s7 ∧ tn i s7.heap ∧ (∀ b ∈ fp, H' b = none) ∧ W i m' σ' H' := fun {σ7 H7 s7 m'} I7 w7 => by
      refine ⟨i + 1, σ7, H7, I7.unpinned, T.keep _ _ _ st4 fun b hb o e => (I7.pin (b, o) (List.mem_append_right _ (List.mem_append_right _ (mem_pinsAt hb e)))).1, fun b hb => ?_, w7⟩
      obtain ⟨o, e, d⟩ := T.obj _ _ st4 b hb
      exact (I7.pin (b, o) (List.mem_append_right _ (List.mem_append_right _ (mem_pinsAt hb e)))).2.1
    cases b with
    | false =>
      rw [if_neg Bool.false_ne_true] at q6
      obtain ⟨m', hm, w7⟩ := hN _ _ q6
      exact wpAny_pure ⟨rfl, m', hm, again I6 w7⟩
    | true =>
      rw [if_pos rfl] at q6
      refine wpAny_bind (wpAny_bind (lift (he _ s6 σ5 H6 _ I6 q6) fun u s7 q7 => ?_))
      obtain ⟨v, H7, I7, r7, ys, hp, hz, n7⟩ := q7
      obtain ⟨m', hm, w7⟩ := hN _ _ n7
      have ap := mt_append (X := cxC X scope N' s H C fp) ([] ++ pinsAt fp s4.heap) s7 σ5 H7 (.ref p) [v] (.ref p) [u] (fun _ H8 => W (i + 1) m' σ5 H8) I7 rfl (.cons r7 .nil) ⟨p, ys, v, rfl, rfl, hp, hz, w7⟩
      refine wpAny_bind (lift ap fun _ s8 q8 => ?_)
      obtain ⟨_, H8, I8, _, w8⟩ := q8
      exact wpAny_pure (wpAny_pure ⟨rfl, m', hm, again I8 w8⟩)
end
section
variable {K : PySem.W.Frag} {p : Addr} {g : TG} {tt : TT} {te : TE} {σ0 : St} {H0 : Hp} {Q : Hp → Prop}
def BlkTurn (p : Addr) (g : TG) (tt : TT) (te : TE) (N : St → Hp → Prop) (x : V) (σ : St) (H : Hp) : Prop :=
  g x σ H fun σ2 H2 => tt σ2 H2 fun b H3 => if b = true then te σ2 H3 fun v H4 => ∃ ys, H4 p = some (.lst ys) ∧ ys.length < sizeLine ∧ N σ2 (upd H4 p (.lst (ys ++ [v]))) else N σ2 H3
theorem blk_range {lo : Int} {n : Nat} (Pv : Nat → St → Hp → Prop) (h0 : Pv 0 σ0 H0) (hs : ∀ i σ H, i < n → Pv i σ H → BlkTurn p g tt te (Pv (i + 1)) (.int (lo + i)) σ H) (hd : ∀ σ H, Pv n σ H → Q H) : tBlk (Itr lo n) p g tt te σ0 H0 Q := by
  refine ⟨fun i m σ H => m = n - i ∧ i ≤ n ∧ Pv i σ H, ⟨n, by simp, Nat.zero_le _, h0⟩, ?_⟩
  rintro i m σ H ⟨rfl, hi, q⟩
  by_cases hlt : i < n
  · refine .inr ⟨hlt, Pv (i + 1), fun σ' H' r => ⟨n - (i + 1), by omega, rfl, hlt, r⟩, fun x H' y => ?_⟩
    obtain ⟨e, y⟩ := y
    subst e y
    exact hs i σ _ hlt q
  · have e : i = n := by omega
    subst e
    exact .inl ⟨Nat.le_refl _, hd σ H q⟩
end
end L2
set_option Elab.async false
set_option linter.all false
set_option maxRecDepth 100000
set_option maxHeartbeats 4000000
namespace L2
open PySem PySem.Spec PyProof.Rows
section
variable {X : Cx} {elt iter tg : Expr} {ifs : List Expr} {scope : Scope} {pos : Pos} {N' : List Str} {fm : List (Option Nat)} {wi : TI} {g : TG} {tt : TT} {te : TE}
theorem comp_block {RR : Value → Addr → Result → Shared → Prop} {pins : List (Addr × Obj)} {σ : St} {H : Hp} {s : Shared} {it : Addr} {fp : List Addr} {tn : Nat → Heap → Prop} {J : It} {Q : Addr → Hp → Prop} {E : Value → Shared → Prop}
    (hc : X.calm = true) (S : CompSc X scope N' fm) (hg : ∀ s H C fp, PG (cxC X scope N' s H C fp) tg g) (ht : ∀ s H C fp, PIfs (cxC X scope N' s H C fp) ifs tt) (he : ∀ s H C fp, PE (cxC X scope N' s H C fp) elt te)
    (T : Turn X.prog X.w X.K tg J fp it tn) (I : Inv X pins σ H s) (st : tn 0 s.heap) (hf : ∀ b ∈ fp, FpOk X pins H b)
    (blk : ∀ p, H p = none → tBlk J p g tt te (seeσ fm σ) (upd H p (.lst [])) (Q p))
    (hR : ∀ p C H' s' (m : Str → Option Value), s'.heap.Ns C m → (∀ h', Heap.SameBut C s'.heap h' → Inv X pins σ H' { s' with heap := h' }) → FpOk X pins H' C → Q p H' → Inv X pins σ H' s' → RR (.ref p) C (.ok .next) s') :
    wpAny (model X.prog X.w) X.A (newList []) (fun acc s₃ => wpAny (model X.prog X.w) X.A (newFunctionEnv scope X.env.globals (clOf scope X.env) [] X.env.qual none .none (some X.env)) (fun cenv s₄ =>
      codeAny (model X.prog X.w) X.A (.compStart (.ListComp elt [⟨tg, iter, ifs, 0⟩] scope pos) 0 (.ref it) acc { cenv with scope := relabel scope X.env }) (RR acc cenv.locals) s₄) E s₃) E s := by
  have I1 : Inv X pins σ (upd H s.heap.objs.size (.lst [])) { s with heap := s.heap.push { cls := .type "list", data := .seq ([] : List Value).toArray } } := I.lnew (t' := s.toks) .nil (Nat.zero_le _)
  have hb := blk _ I.fresh
  refine wpAny_newObj_type (wpAny_newFunctionEnv S.cell (by intro y hy; simp at hy) (fun h1 hn1 hs1 => ?_) S.kind)
  dsimp only at hn1 hs1 ⊢
  generalize hq : s.heap.push { cls := .type "list", data := .seq ([] : List Value).toArray } = h2 at hn1 hs1 I1 ⊢
  have sz : h2.objs.size = s.heap.objs.size + 1 := by rw [← hq, Heap.size_push]
  have old : ∀ b o, h2.get? b = some o → h1.get? b = some o := fun b o e => hs1.extBut b o (Nat.ne_of_lt (Heap.lt_size e)) (Heap.get?_push_of_some _ e)
  have old0 : ∀ b o, s.heap.get? b = some o → h2.get? b = some o := fun b o e => hq ▸ Heap.get?_push_of_some _ e
  have lt0 : ∀ b ∈ fp, b < s.heap.objs.size := fun b hb => by
    obtain ⟨o, e, _⟩ := T.obj _ _ st b hb
    exact Heap.lt_size e
  have hf1 : ∀ b ∈ fp, FpOk X pins (upd H s.heap.objs.size (.lst [])) b := fun b hb => by
    obtain ⟨f0, f⟩ := hf b hb
    exact ⟨by rw [upd_ne (Nat.ne_of_lt (lt0 b hb))]; exact f0, f⟩
  have lt2 : ∀ b ∈ fp, b < h2.objs.size := fun b hb => by rw [sz]; exact Nat.lt_succ_of_lt (lt0 b hb)
  have J0 := comp_start (s := { s with heap := h2 }) (h' := h1) (tk := s.toks) (fp := fp) S I1 hf1 lt2 hn1 old
  have st1 : tn 0 h1 := T.keep _ _ _ st fun b _ o e => old b o (old0 b o e)
  have fpok : ∀ {H' : Hp}, (∀ b ∈ fp, H' b = none) → ∀ b ∈ fp, FpOk (cxC X scope N' { s with heap := h2 } (upd H s.heap.objs.size (.lst [])) h2.objs.size fp) [] H' b := fun {H'} hn b hb => by
    refine ⟨hn b hb, Nat.ne_of_lt (lt2 b hb), fun z => ?_, .inl hb, fun x c e z => ?_, fun p hp => absurd (show p ∈ ([] : List (Addr × Obj)) from hp) (by simp)⟩
    · rcases List.mem_cons.mp (I.stkSub b z) with q | q
      · exact (hf b hb).2.1 q
      · exact (hf b hb).2.2.1 q
    · exact (hf b hb).2.2.2.2.1 x c (S.look I e).1 z
  have loop := comp_loop (iter := iter) (pos := pos) (R := RR (.ref s.heap.objs.size) h2.objs.size) (σ := σ) (pins := pins) hc (hg _ _ _ _) (ht _ _ _ _) (he _ _ _ _) T fpok J0 st1 (fun b hb => (hf1 b hb).1) hb fun σ' H' s' Jv qv => by
    obtain ⟨m, hm, _⟩ := Jv.loc
    exact hR _ _ H' s' m hm (fun h' sb => comp_back (s := { s with heap := h2 }) I1 hf1 Jv rfl Jv.bare sb) (I1.fpOk (Nat.le_refl _) Jv.free) qv (comp_back (s := { s with heap := h2 }) I1 hf1 Jv rfl Jv.bare (Heap.SameBut.refl ..))
  exact codeAny_compStart_list loop (T.self _ 0 _ _ _ st1 loop)
theorem pe_comp (hc : X.calm = true) (S : CompSc X scope N' fm) (hi : PI X tg iter wi) (hg : ∀ s H C fp, PG (cxC X scope N' s H C fp) tg g) (ht : ∀ s H C fp, PIfs (cxC X scope N' s H C fp) ifs tt)
    (he : ∀ s H C fp, PE (cxC X scope N' s H C fp) elt te) (hs : ∀ x, foldedSetIterable iter X.env x = pure x := by intro _; rfl) :
    PE X (.ListComp elt [⟨tg, iter, ifs, 0⟩] scope pos) (tComp fm wi g tt te) := by
  intro pins s σ H Q I h
  rw [eval_ListComp]
  refine wpAny_comprehension_free (use := none) rfl hs (closure_run (S.cells I)) S.kind S.names (thn (hi pins s σ H _ I h) fun v s1 h1 => thn h1 fun itv s2 h2 => ?_)
  obtain ⟨it, fp, tn, J, H2, e, I2, T, st2, f2, blk⟩ := h2
  subst e
  refine comp_block (RR := fun acc C => compPost (model X.prog X.w) X.A X.xe none (EP X pins σ Q) acc C) (Q := fun p H' => Q (.ref p) H') hc S hg ht he T I2 st2 f2 blk ?_
  intro p C H' s' m hm back _ q _
  exact ⟨m, hm, fun h' sb => ⟨.ref p, H', back h' sb, rfl, q⟩⟩
end
end L2
set_option Elab.async false
set_option linter.all false
set_option maxRecDepth 100000
set_option maxHeartbeats 4000000
namespace L2
open PySem PySem.Spec PySem.W
section
variable {prog : Program} {w : World} {A : Around} {R : Result → Shared → Prop} {h : Heap} {g : Array GenState} {d : Drawn} {t : Nat} {os : OsState}
variable {nm q : Str} {C N f : Addr} {bs bm : List Value} {hdct : Bool} {sn : List Str} {sub : List Value} {ab : Bool} {col : Option Bool} {dd : Option Addr} {k0 k1 k2 k3 k5 : Option Value}
abbrev xObj (C tu : Addr) : Obj := { cls := .ref C, data := .fields #[.ref tu, .none, .none, .none, .bool false, .none] }
abbrev xTup (us : List Value) : Obj := { cls := .type "tuple", data := .seq us.toArray }
structure XBases (bm : List Value) : Prop where
  ve : bm.contains (.type "ValueError") = true
  be : bm.contains (.type "BaseException") = true
  ae : bm.contains (.type "AttributeError") = false
  ne : bm.contains (.type "NameError") = false
  ob : bm.contains (.type "object") = true
  rf : ∀ self : Value, refuseLoop self "__setattr__" bm = pure ()
theorem x_check (B : XBases bm) {M : Model} {E : Value → Shared → Prop} {us : List Value} {Q : Unit → Shared → Prop} (hC : h.get? C = some (excClassObj nm q C N bs bm hdct sn sub ab col dd k0 k1 k2 k3 k5 "ValueError.__new__"))
    (hq : Q () ⟨h, g, d, t, os⟩) : wpAny M A (checkBuiltinCall "ValueError.__new__" ⟨.ref C :: us, []⟩) Q E ⟨h, g, d, t, os⟩ := by
  have FV := PySem.F.excBase_ValueError
  have c1 : (Value.ref C :: bm).contains (.type "ValueError") = true := by rw [List.contains_cons, B.ve, Bool.or_true]
  have c2 := FV.noStar
  simp only [checkBuiltinCall, FV.newKind, FV.newSplit, FV.newRow]
  repeat (first | refine wpAny_loadPart_at hC ?_ | (refine wpAny_isSubtype_exc hC ?_; rw [c1]) | refine wpAny_staticBase_exc hC ?_ | refine wpAny_madeBy_exc hC ?_ | (simp only [bne_self_eq_false, Bool.false_eq_true, if_false]) | wp_step)
  exact hq
theorem x_new (B : XBases bm) {us : List Value} (hC : h.get? C = some (excClassObj nm q C N bs bm hdct sn sub ab col dd k0 k1 k2 k3 k5 "ValueError.__new__"))
    (hq : R (.ok (.ret (.ref (h.objs.size + 1)))) ⟨(h.push (xTup us)).push (xObj C h.objs.size), g, d, t, os⟩) (hus : us.length ≤ sizeLine) :
    codeAny (model prog w) A (.builtin "ValueError.__new__" ⟨.ref C :: us, []⟩) R ⟨h, g, d, t, os⟩ := by
  have FV := PySem.F.excBase_ValueError
  have e1 := FV.ends
  have c1 : (Value.ref C :: bm).contains (.type "ValueError") = true := by rw [List.contains_cons, B.ve, Bool.or_true]
  have c2 : (Value.ref C :: bm).contains (.type "AttributeError") = false := by rw [List.contains_cons, B.ae]; rfl
  have c3 : (Value.ref C :: bm).contains (.type "NameError") = false := by rw [List.contains_cons, B.ne]; rfl
  refine codeAny_builtinAt FV.entry ?_
  unfold Builtin.«BaseException.__new__»
  refine PySem.wpAt_bind ?_
  show PySem.wpAt _ _ _ (stack >>= _) _ _ _
  refine PySem.wpAt_bind (PySem.wpAt_stack fun a b => PySem.wpAt_of_wpAny ?_)
  wp_walk
  refine PySem.wpAt_of_wpAny ?_
  rw [FV.owner]
  repeat (first | with_reducible refine wpAny_madeHere_exc FV.canon hC ?_ | with_reducible refine wpAny_loadPart_at hC ?_ | (with_reducible refine wpAny_isSubtype_exc hC ?_; first | rw [c1] | rw [c2] | rw [c3]) | wp_step)
  show R _ _
  rw [Heap.size_push]
  exact hq
theorem x_make (B : XBases bm) {us : List Value} (hC : h.get? C = some (excClassObj nm q C N bs bm hdct sn sub ab col dd k0 k1 k2 k3 k5 "ValueError.__new__"))
    (hi : Looks (model prog w) h (typeLookup (.ref C) "__init__") (some (.ref f))) (hb : ∀ self, Looks (model prog w) h (bindSpecial (.ref f) self) (.ref f, [self])) (hus : us.length ≤ sizeLine)
    (hq : codeAny (model prog w) (A.under (.builtin "type.__call__" ⟨.ref C :: us, []⟩)) (.call (.ref f) ⟨.ref (h.objs.size + 1) :: us, []⟩) (InitBack (h.objs.size + 1) R) ⟨(h.push (xTup us)).push (xObj C h.objs.size), g, d, t, os⟩) :
    codeAny (model prog w) A (.call (.ref C) ⟨us, []⟩) R ⟨h, g, d, t, os⟩ := by
  have f1 := tc_lookup
  have f2 := tc_bind (.ref C)
  have hT : (⟨h, g, d, t, os⟩ : Shared).TypeIs (.ref C) "type" := ⟨_, hC, rfl⟩
  refine codeAny_of_tree ?_
  show wpAny _ _ (callAny (.ref C) _) _ _ _
  repeat (any_goals (first | assumption | with_reducible refine wpAny_loadPart_at hC ?_ | wp_step))
  refine ⟨rfl, ?_⟩
  refine codeAny_call_builtin_at (Code.quiet_builtin _ (by decide +kernel)) entry_typeCall (wpAny_check_type_call_sub hC ?_)
  repeat (first | with_reducible refine wpAny_loadPart_at hC ?_ | with_reducible refine wpAny_madeBy_exc hC ?_ | wp_step)
  refine codeAny_call_builtin_code (Code.quiet_builtin _ PySem.F.excBase_ValueError.quiet) (x_check B hC (x_new B hC ?_ hus))
  show wpAny _ _ _ _ _ _
  have k : ∀ b o, h.get? b = some o → ((h.push (xTup us)).push (xObj C h.objs.size)).get? b = some o := fun b o e => Heap.get?_push_of_some _ (Heap.get?_push_of_some _ e)
  have hC1 := k _ _ hC
  have hx : ((h.push (xTup us)).push (xObj C h.objs.size)).get? (h.objs.size + 1) = some (xObj C h.objs.size) := by heap_get
  have cC : (Value.ref C :: bm).contains (.ref C) = true := by simp
  have i1 := hi.keeps k
  have b1 := (hb (.ref (h.objs.size + 1))).keeps k
  have t1 : Looks (model prog w) ((h.push (xTup us)).push (xObj C h.objs.size)) (typeOf (.ref (h.objs.size + 1))) (.ref C) := (Looks.ld hx).andThen .now
  unfold isInstance
  repeat (first | with_reducible refine wpAny_loadPart_at hx ?_ | (with_reducible refine wpAny_isSubtype_exc hC1 ?_; rw [cC]) | wp_step)
  show wpAny _ _ (isSubtype (.ref C) (.ref C)) _ _ ⟨(h.push (xTup us)).push (xObj C h.objs.size), g, d, t, os⟩
  refine wpAny_isSubtype_exc hC1 ?_
  rw [cC]
  unfold callSpecial? specialOf
  simp only [Bool.not_true, Bool.false_eq_true, if_false]
  repeat (first | with_reducible refine wpAny_call ?_ | lk)
  refine codeAny_mono hq fun r s' z => ?_
  rcases r with e | (v | _ | _ | _) <;> first | exact z | exact z.elim | skip
  obtain ⟨rfl, z⟩ := z
  exact wpAny_pure (wpAny_pure z)
end
end L2
set_option Elab.async false
set_option linter.all false
set_option maxRecDepth 100000
set_option maxHeartbeats 4000000
namespace L2
open PySem PySem.Spec PyProof.Rows
def XData (C : Addr) (dx : Option Addr) (tb : Value) (a0 : Addr) : Obj := { cls := .ref C, dict := dx, data := .fields #[.ref a0, tb, .none, .none, .bool false, .none] }
def XO (C : Addr) (dx : Option Addr) (tb : Value) (ea : Addr) : HO := .ext fun h => ∃ a0, h.get? ea = some (XData C dx tb a0)
def TB (fl : Value) (T : Addr) : HO := .ext fun h => ∃ o ts, h.get? T = some o ∧ o.data = .fields ts ∧ ts[3]? = some fl
section
variable {P : Program} {w : World} {H : Hp} {h : Heap} {C ea T : Addr} {dx : Option Addr} {tb fl : Value}
theorem XO.mk {a0 : Addr} (e : h.get? ea = some (XData C dx tb a0)) : ObjOk P w H h ea (XO C dx tb ea) := ⟨⟨a0, e⟩, ⟨_, e⟩, fun _ _ ⟨a, q⟩ k => ⟨a, k _ q⟩⟩
theorem TB.mk {o : Obj} {ts : Array Value} (e : h.get? T = some o) (d : o.data = .fields ts) (q : ts[3]? = some fl) : ObjOk P w H h T (TB fl T) := ⟨⟨o, ts, e, d, q⟩, ⟨_, e⟩, fun _ _ ⟨o, ts, e, d, q⟩ k => ⟨o, ts, k _ e, d, q⟩⟩
theorem XO.at (ok : HOk P w H h) (e : H ea = some (XO C dx tb ea)) : ∃ a0, h.get? ea = some (XData C dx tb a0) := (ok ea _ e).1
theorem TB.at (ok : HOk P w H h) (e : H T = some (TB fl T)) : ∃ o ts, h.get? T = some o ∧ o.data = .fields ts ∧ ts[3]? = some fl := (ok T _ e).1
theorem upd_id {a : Addr} {o : HO} (e : H a = some o) : upd H a o = H := by
  funext b
  unfold upd
  split
  · rename_i z; subst z; exact e.symm
  · rfl
end
section
variable {X : Cx} {pins : List (Addr × Obj)} {σ : St} {H : Hp} {s : Shared} {E : Value → Shared → Prop} {C ea T : Addr} {dx : Option Addr} {tb fl : Value} {A : Around}
theorem Inv.xset {i : Nat} {v tb' : Value} {a0 a1 : Addr} (I : Inv X pins σ H s) (e : H ea = some (XO C dx tb ea)) (q : s.heap.get? ea = some (XData C dx tb a0))
    (hv : (#[.ref a0, tb, .none, .none, .bool false, .none] : Array Value).setIfInBounds i v = #[.ref a1, tb', .none, .none, .bool false, .none]) :
    Inv X pins σ (upd H ea (XO C dx tb' ea)) { s with heap := s.heap.update ea (Obj.mapFields (·.setIfInBounds i v)) } := by
  have e1 : (s.heap.update ea (Obj.mapFields (·.setIfInBounds i v))).get? ea = some (XData C dx tb' a1) := by
    rw [Heap.get?_update_self _ q rfl]
    show some ({ cls := .ref C, dict := dx, data := .fields ((#[.ref a0, tb, .none, .none, .bool false, .none] : Array Value).setIfInBounds i v) } : Obj) = _
    rw [hv]; rfl
  exact I.write (t' := s.toks) (e := ea) (by rw [e]; trivial) (.inl rfl) (fun b u hb z => by rw [Heap.get?_update_other _ _ (Ne.symm hb)]; exact z) ⟨_, e1⟩ (XO.mk e1)
theorem Inv.tset {v : Value} {o : Obj} {ts : Array Value} (I : Inv X pins σ H s) (e : H T = some (TB fl T)) (q : s.heap.get? T = some o) (d : o.data = .fields ts) (h3 : 3 < ts.size) :
    Inv X pins σ (upd H T (TB v T)) { s with heap := s.heap.update T (Obj.mapFields (·.setIfInBounds 3 v)) } := by
  have d' := Obj.data_mapFields d (·.setIfInBounds 3 v)
  have e1 := Heap.get?_update_self (Obj.mapFields (·.setIfInBounds 3 v)) q (Obj.isFreed_of_fields d')
  exact I.write (t' := s.toks) (e := T) (by rw [e]; trivial) (.inl rfl) (fun b u hb z => by rw [Heap.get?_update_other _ _ (Ne.symm hb)]; exact z) ⟨_, e1⟩ (TB.mk e1 d' (by simp [h3]))
theorem Inv.slots {h' : Heap} (I : Inv X pins σ H s) (hs : Heap.SlotsOnly (frs X.stack) s.heap h') : Inv X pins σ H { s with heap := h' } := by
  have un : Un (frs X.stack) [] H H s.heap h' := ⟨fun b o e _ hb _ => (hs.2.1 b hb).trans e, fun b o e _ _ _ => hs.2.2 b o e, fun _ _ _ n _ => n, fun b o e _ => let ⟨sl, q⟩ := hs.2.2 b o e; ⟨_, q⟩, fun _ _ q => q, fun _ _ _ q => q, fun _ ps q => ⟨#[], by rw [q]; simp⟩⟩
  refine I.call (h' := h') (g' := s.gens) (d' := s.drawn) (t' := s.toks) (ch := []) un (fun b o e => ?_) I.bare fun b z => absurd z (by simp)
  refine (I.hok b o e).stay (fun c u hc q => (hs.2.1 c fun hb => ?_).trans q) (fun _ q => q) fun _ _ q => q
  have n := I.stkFree c hb
  rcases hc with z | z
  · rw [← z, n] at e; cases e
  · rw [n] at z; cases z
end
end L2
set_option Elab.async false
set_option linter.all false
set_option maxRecDepth 100000
set_option maxHeartbeats 4000000
namespace L2
open PySem PySem.Spec PyProof.Rows
section
variable {X : Cx} {pins : List (Addr × Obj)} {σ : St} {H : Hp} {s : Shared} {E : Value → Shared → Prop} {C ea T : Addr} {dx : Option Addr} {tb fl : Value} {A : Around}
def TbOk (H : Hp) (tb : Value) : Prop := tb = .none ∨ ∃ T, tb = .ref T ∧ H T = some (TB .none T)
def Noted (X : Cx) (pins : List (Addr × Obj)) (σ : St) (H : Hp) (C : Addr) (dx : Option Addr) (ea : Addr) (fl : Value) (s' : Shared) : Prop :=
  ∃ T, H T = none ∧ T ≠ ea ∧ Inv X pins σ (upd (upd H T (TB fl T)) ea (XO C dx (.ref T) ea)) s'
theorem note_new {head : Value} {b : Bool} {Q : Unit → Shared → Prop} (hfr : X.A.frames = some (X.env :: X.outer)) (hst : X.stack = X.env :: X.outer) (hL : X.env.frame = some X.env.locals) (I : Inv X pins σ H s) (e : H ea = some (XO C dx tb ea))
    (h : ∀ s', Noted X pins σ H C dx ea (rawInt X.env.locals) s' → Q () s') :
    wpAny (model X.prog X.w) X.A (do let a ← frameOf X.env; let pl ← entryPlaceOf X.env.locals b; let r ← EntryCells.newEntry head a .none (rawInt X.env.locals) .none pl; setField (.ref ea) 1 r) Q E s := by
  have hl := I.stack
  rw [hst] at hl
  refine wpAny_bind (wpAny_frameOf_fun hfr hl hL fun h1 hs1 => ?_)
  have I1 := I.slots (h' := h1) (by rw [hst]; exact hs1)
  refine wpAny_bind (wpAny_entryPlaceOf fun pl hpl => ?_)
  unfold EntryCells.newEntry newFields
  refine wpAny_bind (wpAny_newObj_type ?_ (hpl.sizeOk5 _ _ _ _ _))
  have fresh : H h1.objs.size = none := I1.hok.fresh (Nat.le_refl _)
  have ne : h1.objs.size ≠ ea := fun z => by rw [← z, fresh] at e; cases e
  have t3 : (([head, .ref X.env.locals, .none, rawInt X.env.locals, .none] ++ (if pl.isEmpty then List.replicate 6 Value.none else pl)).toArray : Array Value)[3]? = some (rawInt X.env.locals) := by simp
  have I2 : Inv X pins σ (upd H h1.objs.size (TB (rawInt X.env.locals) h1.objs.size)) { s with heap := h1.push { cls := .type "traceback", dict := none, data := .fields ([head, .ref X.env.locals, .none, rawInt X.env.locals, .none] ++ (if pl.isEmpty then List.replicate 6 Value.none else pl)).toArray } } :=
    I1.laid (a := h1.objs.size) (t' := s.toks) (fun c u q => Heap.get?_push_of_some _ q) (Nat.le_refl _) (TB.mk (Heap.get?_push_size _ rfl) rfl t3)
  have e2 : (upd H h1.objs.size (TB (rawInt X.env.locals) h1.objs.size)) ea = some (XO C dx tb ea) := by rw [upd_ne (Ne.symm ne)]; exact e
  obtain ⟨a0, q⟩ := XO.at I2.hok e2
  refine wpAny_setField q rfl (by show 1 < 6; decide) (h _ ⟨h1.objs.size, fresh, ne, I2.xset (i := 1) (a1 := a0) e2 q rfl⟩)
theorem note_ok {Q : Unit → Shared → Prop} (hst : X.stack = X.env :: X.outer) (hL : X.env.frame = some X.env.locals) (I : Inv X pins σ H s) (e : H ea = some (XO C dx tb ea)) (ht : TbOk H tb)
    (h : ∀ s', Noted X pins σ H C dx ea (rawInt X.env.locals) s' → Q () s') : wpAny (model X.prog X.w) X.A (noteFrame (.ref ea) X.env) Q E s := by
  have hfr : X.A.frames = some (X.env :: X.outer) := by rw [I.ok.frames, hst]
  obtain ⟨a0, q⟩ := XO.at I.hok e
  unfold noteFrame
  simp only [hL]
  refine wpAny_bind (wpAny_field q (x := tb) rfl rfl ?_)
  rcases ht with z | ⟨T, z, eT⟩
  · subst z
    rw [if_neg (by decide)]
    exact note_new hfr hst hL I e h
  · subst z
    obtain ⟨oT, ts, qT, dT, t3⟩ := TB.at I.hok eT
    rw [if_pos (show (Value.ref T != Value.none) = true by simp)]
    refine wpAny_bind (wpAny_field qT dT t3 ?_)
    rw [if_neg (show ¬ ((Value.none == rawInt X.env.locals) = true) by simp [rawInt])]
    have h3 : 3 < ts.size := (Array.getElem?_eq_some_iff.mp t3).1
    have I1 := I.tset (v := Value.none) eT qT dT h3
    rw [upd_id eT] at I1
    exact wpAny_bind (wpAny_setField qT dT h3 (note_new hfr hst hL I1 e h))
theorem flight_ok {Q : Unit → Shared → Prop} (I : Inv X pins σ H s) (e : H ea = some (XO C dx (.ref T) ea)) (eT : H T = some (TB fl T)) (h : ∀ s', Inv X pins σ (upd H T (TB .none T)) s' → Q () s') :
    wpAny (model X.prog X.w) A (setFlight (.ref ea) none) Q E s := by
  obtain ⟨a0, q⟩ := XO.at I.hok e
  obtain ⟨oT, ts, qT, dT, t3⟩ := TB.at I.hok eT
  unfold setFlight
  refine wpAny_bind (wpAny_field q (x := .ref T) rfl rfl ?_)
  rw [if_pos (show (Value.ref T != Value.none) = true by simp)]
  have h3 : 3 < ts.size := (Array.getElem?_eq_some_iff.mp t3).1
  exact wpAny_setField qT dT h3 (h _ (I.tset (v := Value.none) eT qT dT h3))
def SameX (ea : Addr) (H H' : Hp) : Prop := ∀ b o, b ≠ ea → H b = some o → H' b = some o
theorem leave_ok {Q : Unit → Shared → Prop} (hst : X.stack = X.env :: X.outer) (hL : X.env.frame = some X.env.locals) (I : Inv X pins σ H s) (e : H ea = some (XO C dx tb ea)) (ht : TbOk H tb)
    (h : ∀ s' T H', Inv X pins σ H' s' → H' ea = some (XO C dx (.ref T) ea) → H' T = some (TB .none T) → SameX ea H H' → Q () s') : wpAny (model X.prog X.w) X.A (leaving X.env (.ref ea)) Q E s := by
  unfold leaving
  refine wpAny_bind (note_ok hst hL I e ht fun s1 ⟨T, n, ne, I1⟩ => ?_)
  have e1 : upd (upd H T (TB (rawInt X.env.locals) T)) ea (XO C dx (.ref T) ea) ea = some (XO C dx (.ref T) ea) := upd_same
  have e2 : upd (upd H T (TB (rawInt X.env.locals) T)) ea (XO C dx (.ref T) ea) T = some (TB (rawInt X.env.locals) T) := by rw [upd_ne ne, upd_same]
  refine flight_ok I1 e1 e2 fun s2 I2 => h s2 T _ I2 (by rw [upd_ne (Ne.symm ne)]; exact e1) upd_same fun b o hb q => ?_
  have hT : b ≠ T := ne_of_none q n
  rw [upd_ne hT, upd_ne hb, upd_ne hT]
  exact q
def CXE (P : Program) (w : World) : CXT := fun outer H s E e s' => ∃ (ea C dx : Addr) (tb : Value) (H0 H' : Hp), e = .ref ea ∧ s'.os = s.os ∧ AllBare s'.gens ∧ Un (frs outer) [] H H' s.heap s'.heap ∧ HOk P w H' s'.heap ∧
  H' ea = some (XO C (some dx) tb ea) ∧ TbOk H' tb ∧ SameX ea H0 H' ∧ H0 ea = none ∧ E (.ref C) (some dx) H0
end
theorem passE {P : Program} {w : World} {K : PySem.W.Frag} {mg : Str → Option Value} {base : Heap} {N : List Str} {qual : Str} {scope : Scope} {f : Addr} {cd : Value} {A : Around} {outer : List Env} {s : Shared} {H : Hp} {E : XK} :
    Passes (CXE P w) (cxOf (CXE P w) P w K mg base N qual scope f cd A outer s H E) E := by
  intro pins σ H1 s1 e s2 I h
  obtain ⟨ea, C, dx, tb, H0, H2, rfl, os, bare, un, hok, e1, ht, sx, n0, q⟩ := h
  have J : Inv (cxOf (CXE P w) P w K mg base N qual scope f cd A outer s H E) pins σ H2 s2 := I.call' (ch := []) os un hok bare fun b z => absurd z (by simp)
  refine leave_ok (X := cxOf (CXE P w) P w K mg base N qual scope f cd A outer s H E) rfl rfl J e1 ht fun s3 T H3 J3 e3 eT sx3 => ?_
  exact ⟨ea, C, dx, .ref T, H0, H3, rfl, J3.os, J3.bare, J3.base, J3.hok, e3, .inr ⟨T, rfl, eT⟩, fun b o hb z => sx3 b o hb (sx b o hb z), n0, q⟩
end L2
set_option Elab.async false
set_option linter.all false
set_option maxRecDepth 100000
set_option maxHeartbeats 4000000
namespace L2
open PySem PySem.Spec
structure XCl (K : PySem.W.Frag) (C : Addr) : Prop where
  obj : ∃ (nm q : Str) (N : Addr) (bs bm : List Value) (sn : List Str) (sub : List Value) (ab : Bool) (col : Option Bool) (dd : Option Addr) (k0 k1 k2 k3 k5 : Option Value),
    K.lookup C = some (excClassObj nm q C N bs bm true sn sub ab col dd k0 k1 k2 k3 k5 "ValueError.__new__") ∧ XBases bm
section
variable {M : Model} {A : Around} {E : Value → Shared → Prop} {env : Env} {h : Heap} {g : Array GenState} {d : Drawn} {t : Nat} {os : OsState}
variable {nm q : Str} {C N : Addr} {bs bm : List Value} {hdct : Bool} {sn : List Str} {sub : List Value} {ab : Bool} {col : Option Bool} {dd : Option Addr} {k0 k1 k2 k3 k5 : Option Value} {ea a0 : Addr} {dx : Option Addr}
theorem x_raise {Q : Flow → Shared → Prop} (B : XBases bm) (hh : A.handled = none) (hC : h.get? C = some (excClassObj nm q C N bs bm hdct sn sub ab col dd k0 k1 k2 k3 k5 "ValueError.__new__"))
    (he : h.get? ea = some (XData C dx .none a0)) (hE : E (.ref ea) ⟨h, g, d, t, os⟩) : wpAny M A (raiseStmt env (some (pure (.ref ea))) none) Q E ⟨h, g, d, t, os⟩ := by
  have c1 : (Value.ref C :: bm).contains (.type "BaseException") = true := by rw [List.contains_cons, B.be, Bool.or_true]
  have hc : (XData C dx .none a0).cls = .ref C := rfl
  unfold raiseStmt
  refine wpAny_bind (wpAny_pure ?_)
  repeat (first | (with_reducible refine wpAny_loadPart_at he ?_; try rw [hc]) | with_reducible refine wpAny_loadPart_at hC ?_ | (with_reducible refine wpAny_isSubtype_exc hC ?_; rw [c1]) | wp_step)
  exact wpAny_raiseNew_none hh hE
theorem x_check_init {oe : Obj} {us : List Value} {Q : Unit → Shared → Prop} (B : XBases bm) (hC : h.get? C = some (excClassObj nm q C N bs bm hdct sn sub ab col dd k0 k1 k2 k3 k5 "ValueError.__new__"))
    (he : h.get? ea = some oe) (hc : oe.cls = .ref C) (hq : Q () ⟨h, g, d, t, os⟩) : wpAny M A (checkBuiltinCall "ValueError.__init__" ⟨.ref ea :: us, []⟩) Q E ⟨h, g, d, t, os⟩ := by
  have FV := PySem.F.excBase_ValueError
  have c1 : (Value.ref C :: bm).contains (.type "ValueError") = true := by rw [List.contains_cons, B.ve, Bool.or_true]
  have c2 := FV.noStar
  simp only [checkBuiltinCall, FV.initKind, FV.initSplit, FV.initRow]
  repeat (first | (with_reducible refine wpAny_loadPart_at he ?_; rw [hc]) | with_reducible refine wpAny_loadPart_at hC ?_ | (with_reducible refine wpAny_isSubtype_exc hC ?_; rw [c1]) | wp_step)
  refine wpAny_onRaise ?_
  have z : ∀ (a b : String) (n : Nat), Bind.check ⟨.positional, "*", "ValueError", .self, [⟨"args", .varPos, false⟩]⟩ a b n (List.map (fun x => x.fst) ({ pos := Value.ref ea :: us } : Args).kw) = pure () := fun a b n => check_star_args _ _ _ _ _ _
  rw [z]
  exact wpAny_pure hq
end
section
variable {prog : Program} {w : World} {A : Around} {E : Value → Shared → Prop} {env : Env} {h : Heap} {g : Array GenState} {d : Drawn} {t : Nat} {os : OsState}
variable {nm q : Str} {C N : Addr} {bs bm : List Value} {hdct : Bool} {sn : List Str} {sub : List Value} {ab : Bool} {col : Option Bool} {dd : Option Addr} {k0 k1 k2 k3 k5 : Option Value} {ea a0 : Addr} {dx : Option Addr} {tb : Value}
theorem x_init {us : List Value} {Q : Value → Shared → Prop} (B : XBases bm) (hC : h.get? C = some (excClassObj nm q C N bs bm hdct sn sub ab col dd k0 k1 k2 k3 k5 "ValueError.__new__"))
    (he : h.get? ea = some (XData C dx tb a0)) (hus : us.length ≤ sizeLine) (hq : Q .none ⟨(h.push (xTup us)).update ea (Obj.mapFields (·.setIfInBounds 0 (.ref h.objs.size))), g, d, t, os⟩) :
    wpAny (model prog w) A (call (.builtin "ValueError.__init__") (.ref ea :: us)) Q E ⟨h, g, d, t, os⟩ := by
  have FV := PySem.F.excBase_ValueError
  refine wpAny_call (codeAny_call_builtin FV.init.plain FV.initEntry (x_check_init B hC he rfl ?_))
  have he2 := Heap.get?_push_of_some (xTup us) he
  wp_walk
  exact hq
theorem x_set {name : Str} {v : Value} {Q : Unit → Shared → Prop} (B : XBases bm) (hC : h.get? C = some (excClassObj nm q C N bs bm true sn sub ab col dd k0 k1 k2 k3 k5 "ValueError.__new__"))
    (hx : h.get? ea = some (XData C none tb a0)) (sa : PySem.W.Looks (model prog w) h (typeLookup (.ref C) "__setattr__") (some (.builtin "object.__setattr__"))) (na : PySem.W.Looks (model prog w) h (typeLookup (.ref C) name) none)
    (hq : ∀ h' t', h'.Ns1 h.objs.size (fun y => if y = name then some v else none) → h'.get? ea = some (XData C (some h.objs.size) tb a0) → (∀ b o, b ≠ ea → h.get? b = some o → h'.get? b = some o) → Q () ⟨h', g, d, t', os⟩) :
    wpAny (model prog w) A (setAttr (.ref ea) name v) Q E ⟨h, g, d, t, os⟩ := by
  have SF := PySem.F.store_ValueError
  have ty : PySem.W.Looks (model prog w) h (typeOf (.ref ea)) (.ref C) := (PySem.W.Looks.ld hx).andThen .now
  have mro : PySem.W.Looks (model prog w) h (mroOf (.ref C)) (.ref C :: bm) := ((PySem.W.Looks.ld (part := none) hC).andThen .now).andThen .now
  have sub : PySem.W.Looks (model prog w) h (isSubtype (.ref C) (.type "object")) true := by
    intro A' Q' E' s' k q
    obtain ⟨h2, g2, d2, t2, os2⟩ := s'
    refine wpAny_isSubtype_exc (k _ _ hC) ?_
    rw [List.contains_cons, B.ob, Bool.or_true]
    exact q
  have ins : PySem.W.Looks (model prog w) h (isInstance (.ref ea) (.type "object")) true := ty.andThen sub
  refine wpAny_bind (wpAny_mkText (wpAny_bind (wpAny_bind (wpAny_bind (ty _ _ _ _ (fun _ _ e => e) (sa _ _ _ _ (fun _ _ e => e) (wpAny_holding ?_)))))))
  rw [SF.slot.bind]
  refine wpAny_bind (wpAny_pure (wpAny_bind (wpAny_call ?_)))
  refine codeAny_call_builtin SF.slot.plain SF.entry (@PySem.W.check_slot (model prog w) _ _ ⟨h, g, d, t + 1, os⟩ "object.__setattr__" "object" "__setattr__" (.ref ea) [.str name t, v] [] _ SF.kind SF.split ins (SF.args (.ref ea) (.str name t) v) ?_)
  show wpAny (model prog w) A.in1 (Builtin.«object.__setattr__» ⟨[.ref ea, .str name t, v], []⟩) _ _ _
  rw [PySem.W.osa_eq, refuse_eq]
  refine wpAny_bind (wpAny_bind (ty.here (wpAny_bind (mro.here ?_))))
  rw [refuseLoop_ref, B.rf]
  refine wpAny_pure (wpAny_bind (ty.here (wpAny_bind (na.here (wpAny_bind (wpAny_pure ?_))))))
  show wpAny _ _ (Builtin.ObjectAttr.storeInOwnDict (.ref ea) (.ref C) (.str name t) name v false) _ _ _
  unfold Builtin.ObjectAttr.storeInOwnDict
  refine wpAny_bind (wpAny_pure (wpAny_bind (wpAny_bind (wpAny_loadPart hx ?_))))
  show wpAny _ _ (classData C >>= fun cd => if (!cd.hasDict) = true then pure none else (alloc { cls := Value.type "dict", data := Data.dict #[] } >>= fun e => update ea (fun o => { cls := o.cls, dict := some e, data := o.data, slots := o.slots }) >>= fun _ => pure (some e))) _ _ _
  refine wpAny_bind (wpAny_bind (wpAny_load hC (wpAny_pure ?_)))
  rw [if_neg (show ¬ (!true) = true by decide)]
  have hx1 : (h.push { cls := Value.type "dict", data := Data.dict #[] }).get? ea = some (XData C none tb a0) := Heap.get?_push_of_some _ hx
  have ne : ea ≠ h.objs.size := Nat.ne_of_lt (Heap.lt_size hx)
  refine wpAny_bind (wpAny_alloc (wpAny_bind (wpAny_update hx1 (wpAny_pure ?_))))
  have hu : ((h.push { cls := Value.type "dict", data := Data.dict #[] }).update ea fun o => { cls := o.cls, dict := some h.objs.size, data := o.data, slots := o.slots }).get? ea = some (XData C (some h.objs.size) tb a0) := Heap.get?_update_self _ hx1 rfl
  have hd : ((h.push { cls := Value.type "dict", data := Data.dict #[] }).update ea fun o => { cls := o.cls, dict := some h.objs.size, data := o.data, slots := o.slots }).get? h.objs.size = some { cls := Value.type "dict", data := Data.dict #[] } :=
    (Heap.get?_update_other _ _ ne).trans (Heap.get?_push_size _ rfl)
  have hn : ((h.push { cls := Value.type "dict", data := Data.dict #[] }).update ea fun o => { cls := o.cls, dict := some h.objs.size, data := o.data, slots := o.slots }).Ns h.objs.size (fun _ => none) :=
    ⟨_, #[], _, hd, rfl, fun e he => absurd he (by simp), fun _ => rfl⟩
  show wpAny _ _ (Builtin.ObjectAttr.storeInDict h.objs.size (.str name t) name v) _ _ _
  unfold Builtin.ObjectAttr.storeInDict Builtin.ObjectAttr.newKeyGuard
  refine wpAny_bind (wpAny_pure (wpAny_bind (wpAny_nsSet1 (Heap.Ns1.of_empty hn) fun h2 hn2 sb => ?_)))
  obtain ⟨oD, esD, epD, hoD, hdD, hcD⟩ := hn2.count (Within.cons name v Within.nil)
  refine wpAny_bind (wpAny_lookBehind hoD (by rw [hdD]; exact pastItsLine_dict (Nat.le_trans hcD (by rw [List.length_singleton, sizeLine_eq]; omega))) ?_)
  refine wpAny_pure (wpAny_pure (wpAny_pure ?_))
  exact hq h2 _ hn2 ((sb.2 ea ne).trans hu) fun b o hb e => (sb.2 b (Nat.ne_of_lt (Heap.lt_size e))).trans ((Heap.get?_update_other _ _ (Ne.symm hb)).trans (Heap.get?_push_of_some _ e))
theorem x_get {dx : Addr} {name : Str} {v : Value} {m : Str → Option Value} {expr : Bool} {Q : Value → Shared → Prop} (B : XBases bm) (hC : h.get? C = some (excClassObj nm q C N bs bm true sn sub ab col dd k0 k1 k2 k3 k5 "ValueError.__new__"))
    (hx : h.get? ea = some (XData C (some dx) tb a0)) (hm : h.Ns dx m) (hv : m name = some v) (ga : PySem.W.Looks (model prog w) h (typeLookup (.ref C) "__getattribute__") (some (.builtin "BaseException.__getattribute__")))
    (gn : PySem.W.Looks (model prog w) h (typeLookup (.ref C) "__getattr__") none) (na : PySem.W.Looks (model prog w) h (typeLookup (.ref C) name) none) (hh : PySem.W.handedIn v = true)
    (hq : ∀ t', Q v ⟨h, g, d, t', os⟩) : wpAny (model prog w) A (getAttr (.ref ea) name expr) Q E ⟨h, g, d, t, os⟩ := by
  have FX := PySem.F.attr_ValueError
  have ty : PySem.W.Looks (model prog w) h (typeOf (.ref ea)) (.ref C) := (PySem.W.Looks.ld hx).andThen .now
  have sub : PySem.W.Looks (model prog w) h (isSubtype (.ref C) (.type "BaseException")) true := by
    intro A' Q' E' s' k q
    obtain ⟨h2, g2, d2, t2, os2⟩ := s'
    refine wpAny_isSubtype_exc (k _ _ hC) ?_
    rw [List.contains_cons, B.be, Bool.or_true]
    exact q
  have ins : PySem.W.Looks (model prog w) h (isInstance (.ref ea) (.type "BaseException")) true := ty.andThen sub
  have fnd : PySem.W.Looks (model prog w) h (Builtin.ObjectAttr.find (.ref ea) (.ref C) name) (.value v) := by
    intro A' Q' E' s' k q
    unfold Builtin.ObjectAttr.find
    refine wpAny_bind (na _ _ _ _ k (wpAny_bind (wpAny_pure (wpAny_bind (wpAny_pure ?_)))))
    show wpAny _ _ (Builtin.ObjectAttr.ownThenClass (.ref ea) name none none) _ _ _
    unfold Builtin.ObjectAttr.ownThenClass
    refine wpAny_bind (wpAny_bind (wpAny_bind (wpAny_loadPart (k _ _ hx) ?_)))
    show wpAny _ _ (instanceDict ea false) _ _ _
    refine wpAny_bind (wpAny_loadPart (k _ _ hx) ?_)
    show wpAny _ _ (classData C >>= fun cd => if (!cd.hasDict) = true then pure none else pure (some dx)) _ _ _
    refine wpAny_bind (wpAny_bind (wpAny_load (k _ _ hC) (wpAny_pure ?_)))
    rw [if_neg (show ¬ (!true) = true by decide)]
    refine wpAny_pure ?_
    show wpAny _ _ (nsGet dx name) _ _ _
    refine wpAny_nsGet (hm.keeps k) ?_
    rw [hv]
    exact wpAny_bind (wpAny_rule (wpAny_pure q))
  unfold getAttr getAttrBy
  refine wpAny_bind (wpAny_mkText (wpAny_holding (wpAny_bind (ty _ _ _ _ (fun _ _ e => e) (wpAny_bind (ga _ _ _ _ (fun _ _ e => e) ?_))))))
  have n1 : (onTheHeap (Value.ref C) && Value.builtin "BaseException.__getattribute__" == Value.builtin "object.__getattribute__") = false := by
    rw [show (Value.builtin "BaseException.__getattribute__" == Value.builtin "object.__getattribute__") = false by decide +kernel, Bool.and_false]
  show wpAny _ _ (if (onTheHeap (Value.ref C) && Value.builtin "BaseException.__getattribute__" == Value.builtin "object.__getattribute__") = true then _ else _) _ _ _
  rw [if_neg (by rw [n1]; decide)]
  unfold getAttrByItsOwn
  refine wpAny_bind (show wpAny _ _ (hookBefore (.ref C)) _ _ _ from gn _ _ _ _ (fun _ _ e => e) (wpAny_bind (wpAny_attempt (wpAny_holding ?_))))
  unfold callGetattribute
  have n2 : (expr && onTheHeap (Value.builtin "BaseException.__getattribute__")) = false := by cases expr <;> rfl
  rw [n2, if_neg (by decide)]
  unfold boundAndCalled
  rw [FX.ga.bind]
  refine wpAny_bind (wpAny_pure (wpAny_call ?_))
  refine codeAny_call_builtin FX.ga.plain F.entry_bexc_ga (@PySem.W.check_slot (model prog w) _ _ ⟨h, g, d, t + 1, os⟩ "BaseException.__getattribute__" "BaseException" "__getattribute__" (.ref ea) [.str name t] [] _ (by decide +kernel) (by decide +kernel) ins (F.args_bexc_ga (.ref ea) (.str name t)) ?_)
  show wpAny (model prog w) A.in1 (Builtin.«object.__getattribute__» ⟨[.ref ea, .str name t], []⟩) _ _ _
  unfold Builtin.«object.__getattribute__»
  refine wpAny_bind (wpAny_pure (wpAny_bind (wpAny_pure (wpAny_bind (ty.here (wpAny_bind (fnd.here (wpAny_pure ?_))))))))
  show wpAny _ _ (handedOut v) _ _ _
  rw [PySem.W.handedOut_of hh]
  exact wpAny_pure (hq _)
end
end L2
set_option Elab.async false
set_option linter.all false
set_option maxRecDepth 100000
set_option maxHeartbeats 4000000
namespace L2
open PySem PySem.Spec PyProof.Rows
structure XKl (K : PySem.W.Frag) (C : Addr) : Prop extends XCl K C where
  sa : PySem.W.findIn K (.ref C) "__setattr__" = some (some (.builtin "object.__setattr__"))
  ga : PySem.W.findIn K (.ref C) "__getattribute__" = some (some (.builtin "BaseException.__getattribute__"))
  gn : PySem.W.findIn K (.ref C) "__getattr__" = some none
  nw : PySem.W.findIn K (.ref C) "word" = some none
structure XMk (K : PySem.W.Frag) (C f : Addr) : Prop where
  init : PySem.W.findIn K (.ref C) "__init__" = some (some (.ref f))
  fn : PySem.W.isFn K (.ref f) = true
  kp : PySem.W.keepIn K (.ref C) = true
def tXMake (C : Addr) (sp : Sp) (E : XK) : TE := fun _ H Q => ∀ ea, H ea = none → sp [.ref ea] (upd H ea (XO C none .none ea)) (fun v H2 => v = .non ∧ Q (.ref ea) H2) E
section
variable {X : Cx} {CX : CXT} {k : Nat} {f C : Addr} {fd : FuncData} {ps : List Str} {sp : Sp} {E : XK} {x : Str} {p pos apos pos' : Pos} {e o value : Expr} {ta tv te : TE} {t : TA}
theorem pe_xmake0 (XC : XKl X.K C) (M : XMk X.K C f) (F : FnOk X.prog X.w X.K X.mg X.base CX k f fd ps sp) (hr : Room (k + 1) X.A) (hg : Gl X x) (hm : X.mg x = some (.ref C)) (hb : Binds X.K fd ps []) (hx : Passes CX X E)
    (hdb : (x == ("__debug__" : Str)) = false := by decide) : PE X (.Call (.Name x p) [] [] pos) (tXMake C sp E) := by
  intro pins s σ H Q I h
  obtain ⟨nm, q, N, bs, bm, sn, sub, ab, col, dd, k0, k1, k2, k3, k5, lk, B⟩ := XC.obj
  refine wpAny_Call_Name_kw (ld_glob I hg hm ?_ hdb)
  refine PySem.W.callWith_K0 I.kIn M.kp (wpAny_call ?_)
  have I1 : Inv X pins σ H { s with heap := s.heap.push (xTup []) } := I.kept (t' := s.toks) fun b o e => Heap.get?_push_of_some _ e
  have I2 : Inv X pins σ (upd H (s.heap.objs.size + 1) (XO C none .none (s.heap.objs.size + 1))) { s with heap := (s.heap.push (xTup [])).push (xObj C s.heap.objs.size) } := by
    refine I1.laid (a := s.heap.objs.size + 1) (t' := s.toks) (fun b o e => Heap.get?_push_of_some _ e) (Nat.le_of_eq (Heap.size_push ..)) (XO.mk (a0 := s.heap.objs.size) ?_)
    exact Heap.get?_push_at (by rw [Heap.size_push]) rfl
  have hq := h (s.heap.objs.size + 1) (I.hok.fresh (Nat.le_succ _))
  have hl : [Value.ref (s.heap.objs.size + 1)].length = ps.length := by have := F.len _ _ _ _ hq; simpa using this
  have hl2 : ([Value.ref (s.heap.objs.size + 1)] ++ []).length = ps.length := by rw [List.append_nil]; exact hl
  obtain ⟨hh, g, d, t, os⟩ := s
  refine x_make (us := []) B (I.kIn _ _ lk) (PySem.W.looks_findIn I.kIn M.init) (fun self => PySem.W.bind_fn I.kIn self (beq_iff_eq.mp M.fn)) (Nat.zero_le _) ?_
  refine codeAny_mono (F.run _ X.stack _ _ ⟨[Value.ref (hh.objs.size + 1)], []⟩ ([Value.ref (hh.objs.size + 1)] ++ []) [V.ref (hh.objs.size + 1)] _ E (hr.make C [] []) (I2.env0.make C [] []) (hb _ [Value.ref (hh.objs.size + 1)] I2.kIn hl2) (.cons rfl .nil) hq) fun r s' hq' => ?_
  cases r with
  | error e => exact hx pins σ _ _ e s' I2 hq'
  | ok fl =>
    cases fl with
    | ret u =>
      obtain ⟨v, H', I3, rv, ev, q3⟩ := I2.after hq'
      subst ev
      exact ⟨rv, ⟨V.ref (hh.objs.size + 1), H', I3, rfl, q3⟩⟩
    | next => exact False.elim hq'
    | brk => exact False.elim hq'
    | cont => exact False.elim hq'
def tVInit (K : PySem.W.Frag) (t : TA) : TE := fun σ H Q => t σ H fun vs H2 => ∃ ea C dx tb y, vs = [.ref ea, y] ∧ H2 ea = some (XO C dx tb ea) ∧ XKl K C ∧ Q .non H2
theorem ve_find : PySem.W.findCls [] (.type "ValueError") (.type "type") "__init__" = some (.val (.builtin "ValueError.__init__")) := by kernel_rfl
theorem pe_vinit {a b : Expr} {pl : Sem Bool} (hg : Gl X "ValueError") (hm : X.mg "ValueError" = none) (ha : PA X [a, b] t)
    (hst : starEach [a, b] X.env = (false, eval a X.env) :: starEach [b] X.env := by rfl) (hpl : (backTo pos (starEach [b] X.env)).any (·.1) = false := by rfl)
    (ht : eval (.Call (.Attribute (.Name "ValueError" p) "__init__" apos) [a, b] [] pos) X.env = (do
      let ov ← eval (.Name "ValueError" p) X.env
      standAt apos.atName
      let (f, first) ← holding [ov] (getMethod ov "__init__" pl)
      callWith pos f first (backTo pos (starEach [a, b] X.env)) (backToKw pos (keywordEach [] X.env))) := by rfl) :
    PE X (.Call (.Attribute (.Name "ValueError" p) "__init__" apos) [a, b] [] pos) (tVInit X.K t) := by
  intro pins s σ H Q I h
  refine PySem.W.methodCall_KW (pl := pl) (ld_blt I hg hm (u := .type "ValueError") (by rfl) ?_) ht
  obtain ⟨m, fr⟩ := I.fr
  refine PySem.W.method_type fr I.mod.kin (by kernel_rfl) (by decide +kernel) (show PySem.W.findCls X.K (.type "ValueError") (.type "type") "__init__" = some (.val (.builtin "ValueError.__init__")) from ve_find) (by rfl) ?_
  have I0 := I.tok (s.toks + 1)
  refine PyProof.Rows.callWith_builtin1 (thn (ha pos pins _ σ H _ I0 h) fun us s1 ⟨vs, H1, I1, r1, q1⟩ => ?_) hst hpl
  obtain ⟨ea, C, dx, tb, y, rfl, e1, XC, q⟩ := q1
  obtain ⟨u, v, rfl, ru, rv⟩ := r1.two
  cases ru
  obtain ⟨nm, qn, N, bs, bm, sn, sub, ab, col, dd, k0, k1, k2, k3, k5, lk, B⟩ := XC.obj
  obtain ⟨a0, ea1⟩ := XO.at I1.hok e1
  have I2 : Inv X pins σ H1 { s1 with heap := s1.heap.push (xTup [v]) } := I1.kept (t' := s1.toks) fun b o e => Heap.get?_push_of_some _ e
  have I3 := I2.xset (i := 0) (v := .ref s1.heap.objs.size) (a1 := s1.heap.objs.size) e1 (Heap.get?_push_of_some _ ea1) rfl
  rw [upd_id e1] at I3
  obtain ⟨hh, g, d, tt, os⟩ := s1
  exact x_init (us := [v]) B (I1.kIn _ _ lk) ea1 (by show 1 ≤ sizeLine; rw [sizeLine_eq]; omega) ⟨.non, H1, I3, rfl, q⟩
end
end L2
set_option Elab.async false
set_option linter.all false
set_option maxRecDepth 100000
set_option maxHeartbeats 4000000
namespace L2
open PySem PySem.Spec PyProof.Rows
structure XAt (K : PySem.W.Frag) (C : Addr) (m : Str) (f : Addr) : Prop where
  ga : PySem.W.specialIn K (.ref C) "__getattribute__" = some (some (.builtin "type.__getattribute__"))
  rd : PySem.W.readsIn K C (.type "type") = true
  fd : PySem.W.findCls K (.ref C) (.type "type") m = some (.val (.ref f))
  kp : PySem.W.keepIn K (.ref f) = true
section
variable {X : Cx} {CX : CXT} {k : Nat} {f C : Addr} {fd : FuncData} {ps : List Str} {sp : Sp} {E : XK} {x m : Str} {p pos apos pos' : Pos} {e o value : Expr} {es : List Expr} {ta tv te : TE} {t : TA}
theorem pe_cmeth {pl : Sem Bool} (Z : XAt X.K C m f) (F : FnOk X.prog X.w X.K X.mg X.base CX k f fd ps sp) (hr : Room k X.A) (hg : Gl X x) (hm : X.mg x = some (.ref C)) (hb : Binds X.K fd ps []) (hx : Passes CX X E) (ha : PA X (e :: es) t)
    (hst : starEach (e :: es) X.env = (false, eval e X.env) :: starEach es X.env := by rfl) (hpl : (backTo pos (starEach es X.env)).any (·.1) = false := by rfl) (hdb : (x == ("__debug__" : Str)) = false := by decide)
    (ht : eval (.Call (.Attribute (.Name x p) m apos) (e :: es) [] pos) X.env = (do
      let ov ← eval (.Name x p) X.env
      standAt apos.atName
      let (f, first) ← holding [ov] (getMethod ov m pl)
      callWith pos f first (backTo pos (starEach (e :: es) X.env)) (backToKw pos (keywordEach [] X.env))) := by rfl) :
    PE X (.Call (.Attribute (.Name x p) m apos) (e :: es) [] pos) (tCall sp [] E t) := by
  intro pins s σ H Q I h
  refine PySem.W.methodCall_KW (pl := pl) (ld_glob I hg hm ?_ hdb) ht
  refine PySem.W.method_cls I.kIn Z.ga (PySem.W.cls_value I.kIn Z.rd Z.fd (by rfl) ?_)
  have I0 := I.tok (s.toks + 1)
  refine PySem.W.callWith_K (first := []) (h₀ := X.base) I.ok.mod.kin Z.kp (thn (ha pos pins _ σ H _ I0 h) fun us s1 ⟨vs, H1, I1, r, q⟩ => ⟨I1.kIn, ?_⟩) hst hpl
  exact run_fn F hr hb .nil hx I1 r q
def sXFld (K : PySem.W.Frag) (ta tv : TE) (n : Str) : TS := fun D σ H => tv σ H fun y H1 => ta σ H1 fun x H2 => ∃ ea C tb, x = .ref ea ∧ H2 ea = some (XO C none tb ea) ∧ XKl K C ∧ PySem.W.findIn K (.ref C) n = some none ∧
  ∀ dx, H2 dx = none → D.nx σ (upd (upd H2 ea (XO C (some dx) tb ea)) dx (.xd [(n, y)]))
theorem ps_xfld {n : Str} (ha : PE X o ta) (hv : PE X value tv) (hs : swapsWith value (some (.Attribute o n pos')) pos.line X.env = pure false := by rfl) : PS X (.Assign [.Attribute o n pos'] value pos) (sXFld X.K ta tv n) := by
  intro pins s σ H D I h
  refine plainObj_wpAny_Assign_Attribute (thn (hv pins s σ H _ I h) fun u s1 ⟨y, H1, I1, ry, q⟩ => thn (ha pins s1 σ H1 _ I1 q) fun ov s2 ⟨x, H2, I2, rx, ea, C, tb, ex, e1, XC, nw, q2⟩ => ?_) hs
  subst ex
  obtain rfl : ov = Value.ref ea := rx
  obtain ⟨nm, qn, N, bs, bm, sn, sub, ab, col, dd, k0, k1, k2, k3, k5, lk, B⟩ := XC.obj
  obtain ⟨a0, q1⟩ := XO.at I2.hok e1
  have fresh : H2 s2.heap.objs.size = none := I2.hok.fresh (Nat.le_refl _)
  have ne : ea ≠ s2.heap.objs.size := fun z => by rw [z, fresh] at e1; cases e1
  have K2 := I2.kIn
  obtain ⟨hh, g, d, tt, os⟩ := s2
  refine x_set (name := n) (v := u) B (K2 _ _ lk) q1 (PySem.W.looks_findIn K2 XC.sa) (PySem.W.looks_findIn K2 nw) fun h' t' hn hx hk => ?_
  have lt : ea < hh.objs.size := Heap.lt_size q1
  have un : Un X.fs [] H2 (upd (upd H2 ea (XO C (some hh.objs.size) tb ea)) hh.objs.size (.xd [(n, y)])) hh h' := by
    have ntr : ∀ b, H2 b = none → b ≠ ea := fun b z q => by rw [q, e1] at z; cases z
    have hb : ∀ b o, hh.get? b = some o → b ≠ hh.objs.size := fun b o e => Nat.ne_of_lt (Heap.lt_size e)
    refine ⟨fun b o e n0 _ _ => hk b o (ntr b n0) e, fun b o e n0 _ _ => ⟨o.slots, hk b o (ntr b n0) e⟩, fun b o e n0 _ => ?_, fun b o e _ => ?_, fun b xs z => ?_, fun b o u z => ?_, fun b ps z => ⟨#[], ?_⟩⟩
    · rw [upd_ne (hb b o e), upd_ne (ntr b n0)]; exact n0
    · by_cases z : b = ea
      · subst z; exact ⟨_, hx⟩
      · exact ⟨o, hk b o z e⟩
    · rw [upd_ne (ne_of_none z fresh), upd_ne (ne_of z e1 (by intro q; cases q))]; exact z
    · rw [upd_ne (ne_of_none z fresh), upd_ne (ne_of z e1 (by intro q; cases q))]; exact z
    · rw [upd_ne (ne_of_none z fresh), upd_ne (ne_of z e1 (by intro q; cases q))]; simpa using z
  have hok : HOk X.prog X.w (upd (upd H2 ea (XO C (some hh.objs.size) tb ea)) hh.objs.size (.xd [(n, y)])) h' := fun b o z => by
    by_cases b1 : b = hh.objs.size
    · subst b1
      rw [upd_same] at z; cases z
      refine ⟨_, hn, fun w' => ?_⟩
      by_cases hw : w' = n
      · subst hw
        rw [List.lookup_cons, beq_self_eq_true, if_pos rfl]
        exact ry
      · have hw' : (w' == n) = false := by simpa using hw
        rw [List.lookup_cons, hw', if_neg hw]
        trivial
    · rw [upd_ne b1] at z
      by_cases b2 : b = ea
      · subst b2
        rw [upd_same] at z; cases z
        exact XO.mk hx
      · rw [upd_ne b2] at z
        refine (I2.hok b o z).stay (fun c u hc q => hk c u ?_ q) (fun c q => ?_) fun c xs q => ?_
        · rcases hc with hc | hc
          · rw [hc]; exact b2
          · exact ne_of hc e1 (by intro q; cases q)
        · rw [upd_ne (ne_of_none q fresh), upd_ne (ne_of q e1 (by intro q; cases q))]; exact q
        · rw [upd_ne (ne_of_none q fresh), upd_ne (ne_of q e1 (by intro q; cases q))]; exact q
  exact ⟨σ, _, I2.un (h' := h') (t' := t') un hok, q2 _ fresh⟩
def tXGet (K : PySem.W.Frag) (ta : TE) (n : Str) : TE := fun σ H Q => ta σ H fun x H1 => ∃ ea C dx tb fs v, x = .ref ea ∧ H1 ea = some (XO C (some dx) tb ea) ∧ H1 dx = some (.xd fs) ∧ fs.lookup n = some v ∧ XKl K C ∧ PySem.W.findIn K (.ref C) n = some none ∧ Q v H1
theorem pe_xget {n : Str} (he : PE X e ta) (hb : attributeBase e n X.env (eval e X.env) = eval e X.env := by rfl) : PE X (.Attribute e n pos) (tXGet X.K ta n) := by
  intro pins s σ H Q I h
  refine attr_of hb (thn (he pins s σ H _ I h) fun u s1 ⟨x, H1, I1, rx, ea, C, dx, tb, fs, v, ex, e1, e2, l, XC, nw, q⟩ => ?_)
  subst ex
  obtain rfl : u = Value.ref ea := rx
  obtain ⟨nm, qn, N, bs, bm, sn, sub, ab, col, dd, k0, k1, k2, k3, k5, lk, B⟩ := XC.obj
  obtain ⟨a0, q1⟩ := XO.at I1.hok e1
  obtain ⟨m, hm, hr⟩ := I1.hok dx _ e2
  have rv := hr n
  rw [l] at rv
  cases z : m n with
  | none => rw [z] at rv; exact rv.elim
  | some u =>
    rw [z] at rv
    have K1 := I1.kIn
    have J := I1
    obtain ⟨hh, g, d, tt, os⟩ := s1
    exact x_get B (K1 _ _ lk) q1 hm.ns z (PySem.W.looks_findIn K1 XC.ga) (PySem.W.looks_findIn K1 XC.gn) (PySem.W.looks_findIn K1 nw) (handed_of rv) fun t' => ⟨v, H1, J.tok t', rv, q⟩
def tRaise (K : PySem.W.Frag) (te : TE) (E : XK) : TS := fun _ σ H => te σ H fun x H1 => ∃ ea C dx, x = .ref ea ∧ H1 ea = some (XO C (some dx) .none ea) ∧ XKl K C ∧ E (.ref C) (some dx) (fun b => if b = ea then none else H1 b)
theorem ps_raise (hc : X.calm = true) (hx : Passes (CXE X.prog X.w) X E) (he : PE X e te) : PS X (.Raise (some e) none pos) (tRaise X.K te E) := by
  intro pins s σ H D I h
  rw [arm_exec_Raise]
  show wpAny _ _ (standAt pos >>= fun _ => raiseStmt X.env (some (eval e X.env >>= fun v => standAt pos >>= fun _ => pure v)) none) _ _ s
  refine wpAny_bind (wpAny_standAt ?_)
  have key : wpAny (model X.prog X.w) X.A (eval e X.env >>= fun v => standAt pos >>= fun _ => raiseStmt X.env (some (pure v)) none) (SP X pins D) X.xe s := by
    refine wpAny_bind (thn (he pins s σ H _ I h) fun u s1 ⟨x, H1, I1, rx, ea, C, dx, ex, e1, XC, q⟩ => ?_)
    subst ex
    obtain rfl : u = Value.ref ea := rx
    obtain ⟨nm, qn, N, bs, bm, sn, sub, ab, col, dd, k0, k1, k2, k3, k5, lk, B⟩ := XC.obj
    obtain ⟨a0, q1⟩ := XO.at I1.hok e1
    refine wpAny_bind (wpAny_standAt ?_)
    have fin : X.xe (.ref ea) s1 := hx pins σ H1 s1 (.ref ea) s1 I1 ⟨ea, C, dx, .none, _, H1, rfl, rfl, I1.bare, Un.refl, I1.hok, e1, .inl rfl, fun b o hb z => by rw [if_neg hb] at z; exact z, if_pos rfl, q⟩
    have K1 := I1.kIn
    have hd := I1.ok.hd hc
    obtain ⟨hh, g, d, tt, os⟩ := s1
    exact x_raise B hd (K1 _ _ lk) q1 fin
  have e1 : ∀ y : Sem Value, raiseStmt X.env (some y) none = y >>= fun v => raiseStmt X.env (some (pure v)) none := fun y => by
    unfold raiseStmt
    simp only [pure_bind]
  rw [e1, bind_assoc]
  simp only [bind_assoc, pure_bind]
  exact key
end
end L2
set_option Elab.async false
set_option linter.all false
set_option maxRecDepth 100000
set_option maxHeartbeats 4000000
namespace L2
open PySem PySem.Spec PyProof.Rows
structure XSub (K : PySem.W.Frag) (C W : Addr) : Prop where
  obj : ∃ (nm q : Str) (N : Addr) (bs bm : List Value) (sn : List Str) (sub : List Value) (ab : Bool) (col : Option Bool) (dd : Option Addr) (k0 k1 k2 k3 k5 : Option Value),
    K.lookup C = some (excClassObj nm q C N bs bm true sn sub ab col dd k0 k1 k2 k3 k5 "ValueError.__new__") ∧ (Value.ref C :: bm).contains (.ref W) = true
section
variable {M : Model} {A : Around} {E : Value → Shared → Prop} {h : Heap} {g : Array GenState} {d : Drawn} {t : Nat} {os : OsState}
variable {nm q nm' q' : Str} {C N W N' : Addr} {bs bm bs' bm' : List Value} {sn sn' : List Str} {sub sub' : List Value} {ab ab' : Bool} {col col' : Option Bool} {dd dd' : Option Addr} {k0 k1 k2 k3 k5 l0 l1 l2 l3 l5 : Option Value} {ea : Addr} {oe : Obj}
theorem x_match {Q : Bool → Shared → Prop} (hC : h.get? C = some (excClassObj nm q C N bs bm true sn sub ab col dd k0 k1 k2 k3 k5 "ValueError.__new__")) (hW : h.get? W = some (excClassObj nm' q' W N' bs' bm' true sn' sub' ab' col' dd' l0 l1 l2 l3 l5 "ValueError.__new__"))
    (B : XBases bm') (hs : (Value.ref C :: bm).contains (.ref W) = true) (he : h.get? ea = some oe) (hc : oe.cls = .ref C) (hq : Q true ⟨h, g, d, t, os⟩) : wpAny M A (excMatches (.ref ea) (.ref W)) Q E ⟨h, g, d, t, os⟩ := by
  have c1 : (Value.ref W :: bm').contains (.type "BaseException") = true := by rw [List.contains_cons, B.be, Bool.or_true]
  have f := tc_notTuple
  unfold excMatches
  repeat (first | (with_reducible refine wpAny_loadPart_at he ?_; rw [hc]) | with_reducible refine wpAny_loadPart_at hW ?_ | (with_reducible refine wpAny_isSubtype_exc hW ?_; rw [c1]) | (with_reducible refine wpAny_isSubtype_exc hC ?_; rw [hs]) | wp_step)
  exact hq
end
abbrev Cx.guard (X : Cx) (pins : List (Addr × Obj)) (Ey : Value → Shared → Prop) : Cx := { X with pn := X.pn ++ pins, xe := Ey }
abbrev Cx.suite (X : Cx) (ea : Addr) : Cx := { X with A := X.A.mark (some (.ref ea)), calm := false, xe := fun _ _ => False }
section
variable {X : Cx} {pins : List (Addr × Obj)} {σ : St} {H : Hp} {s : Shared} {Ey : Value → Shared → Prop} {ea : Addr}
theorem Cx.Ok.guard (ok : X.Ok) : (X.guard pins Ey).Ok := ⟨ok.mod, ok.kind, ok.glob, ok.blt, ok.above, ok.inj, ok.has, ok.cab, ok.hd, ok.frames, ok.stk, ok.exf, ok.bs, ok.bsz, ok.noex, ok.exfs, ok.funs, ok.frf⟩
theorem Cx.Ok.unguard (ok : (X.guard pins Ey).Ok) : X.Ok := ⟨ok.mod, ok.kind, ok.glob, ok.blt, ok.above, ok.inj, ok.has, ok.cab, ok.hd, ok.frames, ok.stk, ok.exf, ok.bs, ok.bsz, ok.noex, ok.exfs, ok.funs, ok.frf⟩
theorem Cx.Ok.suite (ok : X.Ok) : (X.suite ea).Ok := ⟨ok.mod, ok.kind, ok.glob, ok.blt, ok.above, ok.inj, ok.has, ok.cab, fun z => absurd (show false = true from z) (by decide), ok.frames, ok.stk, ok.exf, ok.bs, ok.bsz, ok.noex, ok.exfs, ok.funs, ok.frf⟩
theorem Inv.guard (I : Inv X pins σ H s) : Inv (X.guard pins Ey) [] σ H s := ⟨I.ok.guard, I.os, I.bare, I.base, I.loc, I.cell, I.free, I.freeC, fun p hp => I.pin p (by simpa using hp), I.hok, I.len⟩
theorem Inv.unguard {pins' : List (Addr × Obj)} (I : Inv (X.guard pins Ey) pins' σ H s) : Inv X pins σ H s := ⟨I.ok.unguard, I.os, I.bare, I.base, I.loc, I.cell, I.free, I.freeC, fun p hp => I.pin p (List.mem_append_left _ hp), I.hok, I.len⟩
theorem Inv.suite (I : Inv X pins σ H s) : Inv (X.suite ea) pins σ H s := ⟨I.ok.suite, I.os, I.bare, I.base, I.loc, I.cell, I.free, I.freeC, I.pin, I.hok, I.len⟩
theorem Inv.unsuite (ok : X.Ok) (I : Inv (X.suite ea) pins σ H s) : Inv X pins σ H s := ⟨ok, I.os, I.bare, I.base, I.loc, I.cell, I.free, I.freeC, I.pin, I.hok, I.len⟩
def blank (n : Nat) : St := List.replicate n none
theorem Inv.blank (I : Inv X pins σ H s) : Inv X pins (L2.blank X.N.length) H s := I.weak (by unfold L2.blank; rw [List.length_replicate, I.len]) fun i v e => by
  unfold L2.blank at e
  rw [List.getElem?_replicate] at e
  split at e <;> cases e
theorem Inv.lost {h' : Heap} {tk : Nat} {m : Str → Option Value} (I : Inv X pins σ H s) (hn : h'.Ns X.env.locals m) (hs : Heap.SameBut X.env.locals s.heap h') : Inv X pins (L2.blank X.N.length) H { s with heap := h', toks := tk } := by
  have neL : ∀ b o, X.s₀.heap.get? b = some o → b ≠ X.env.locals := fun b o e => Nat.ne_of_lt (Nat.lt_of_lt_of_le (Heap.lt_size e) I.ok.above)
  refine ⟨I.ok, I.os, I.bare, ⟨fun b o e n hb hx => ?_, fun b o e n hb hx => ?_, I.base.free, fun b o e hx => ?_, I.base.tups, I.base.frzs, I.base.tbls⟩, ⟨m, hn, fun i x v _ e2 => ?_⟩, fun x c e => ?_, I.free, I.freeC, fun p hp => ?_, fun b o e => ?_, by unfold L2.blank; rw [List.length_replicate]⟩
  · exact (hs.2 b (neL b o e)).trans (I.base.keep b o e n hb hx)
  · obtain ⟨sl, q⟩ := I.base.slot b o e n hb hx
    exact ⟨sl, (hs.2 b (neL b o e)).trans q⟩
  · obtain ⟨o', q⟩ := I.base.there b o e hx
    exact ⟨o', (hs.2 b (neL b o e)).trans q⟩
  · unfold L2.blank at e2
    rw [List.getElem?_replicate] at e2
    split at e2 <;> cases e2
  · obtain ⟨v, q⟩ := I.cell x c e
    exact ⟨v, q.sameBut hs (I.cne x c e)⟩
  · obtain ⟨e, n, ne, nf, d⟩ := I.pin p hp
    exact ⟨(hs.2 p.1 ne).trans e, n, ne, nf, d⟩
  · refine (I.hok b o e).stay (fun c u hc q => (hs.2 c ?_).trans q) (fun _ q => q) fun _ _ q => q
    rintro rfl
    rcases hc with z | z
    · rw [← z, I.free] at e; cases e
    · rw [I.free] at z; cases z
end
def Ends.behind (D : Ends) (n : Nat) : Ends := { nx := fun _ H => D.nx (blank n) H, rt := D.rt, bk := fun _ H => D.bk (blank n) H, ct := fun _ H => D.ct (blank n) H }
def tTry (K : PySem.W.Frag) (n W : Nat) (Eh : XK) (i : Nat) (tb th : TS) : TS := fun D σ H => tb D σ H ∧ ∀ (C dx : Addr) (H0 : Hp) (ea T : Addr) (H' : Hp), Eh (.ref C) (some dx) H0 → SameX ea H0 H' → H0 ea = none → H' ea = some (XO C (some dx) (.ref T) ea) →
  XSub K C W ∧ th (D.behind n) ((blank n).set i (some (.ref ea))) H'
section
variable {X : Cx}
theorem ps_try {body suite : List Stmt} {b₀ : Stmt} {pW hpos pos : Pos} {xW x : Str} {W : Addr} {i : Nat} {Eh : XK} {tb th : TS} (hst : X.stack = X.env :: X.outer) (hL : X.env.frame = some X.env.locals) (hN : X.N.Nodup) (hx : X.N[i]? = some x) (hl : X.env.kindOf x = some .local)
    (hg : Gl X xW) (hm : X.mg xW = some (.ref W)) (XW : XKl X.K W) (hb : ∀ pins Ey, Passes (CXE X.prog X.w) (X.guard pins Ey) Eh → PSs (X.guard pins Ey) body tb) (hh : ∀ ea, PSs (X.suite ea) (b₀ :: suite) th) (hdb : (xW == ("__debug__" : Str)) = false := by decide) :
    PS X (.Try body [.ExceptHandler (some (.Name xW pW)) (some x) (b₀ :: suite) hpos] [] [] pos) (tTry X.K X.N.length W Eh i tb th) := by
  intro pins s σ H D I h
  obtain ⟨h1, h2⟩ := h
  have hfr : X.A.frames = some (X.env :: X.outer) := by rw [I.ok.frames, hst]
  refine wpAny_Try_except ?_
  have pass : Passes (CXE X.prog X.w) (X.guard pins fun e s₁ => wpAny (model X.prog X.w) X.A (noteFrame e X.env) (fun _ s₂ => wpAny (model X.prog X.w) X.A (setFlight e none) (fun _ s₃ => wpAny (model X.prog X.w) X.A (handleBy e X.env [.ExceptHandler (some (.Name xW pW)) (some x) (b₀ :: suite) hpos]) (SP X pins D) X.xe s₃) X.xe s₂) X.xe s₁) Eh := by
    intro pins1 σ1 H1 s1 e s2 I1 hce
    obtain ⟨ea, C, dx, tb', H0, H2, rfl, os, bare, un, hok, e1, ht, sx, n0, q⟩ := hce
    have J := (I1.call' (ch := []) os un hok bare fun b z => absurd z (by simp)).unguard
    refine note_ok hst hL J e1 ht fun s3 ⟨T, nT, neT, J3⟩ => ?_
    have e3 : upd (upd H2 T (TB (rawInt X.env.locals) T)) ea (XO C (some dx) (.ref T) ea) ea = some (XO C (some dx) (.ref T) ea) := upd_same
    have t3 : upd (upd H2 T (TB (rawInt X.env.locals) T)) ea (XO C (some dx) (.ref T) ea) T = some (TB (rawInt X.env.locals) T) := by rw [upd_ne neT, upd_same]
    refine flight_ok J3 e3 t3 fun s4 J4 => ?_
    generalize hH4 : upd (upd (upd H2 T (TB (rawInt X.env.locals) T)) ea (XO C (some dx) (.ref T) ea)) T (TB .none T) = H4 at J4
    have e4 : H4 ea = some (XO C (some dx) (.ref T) ea) := by rw [← hH4, upd_ne (Ne.symm neT)]; exact e3
    have t4 : H4 T = some (TB .none T) := by rw [← hH4]; exact upd_same
    have sx4 : SameX ea H0 H4 := fun b o hb z => by
      have hT : b ≠ T := ne_of_none (sx b o hb z) nT
      rw [← hH4, upd_ne hT, upd_ne hb, upd_ne hT]
      exact sx b o hb z
    obtain ⟨sub, qh⟩ := h2 C dx H0 ea T H4 q sx4 n0 e4
    obtain ⟨nm, qn, N, bs, bm, sn, sb, ab, col, dd, k0, k1, k2, k3, k5, lk, cW⟩ := sub.obj
    obtain ⟨nm', qn', N', bs', bm', sn', sb', ab', col', dd', l0, l1, l2, l3, l5, lk', BW⟩ := XW.obj
    refine wpAny_handleBy_cons (codeAny_handlers_test ?_) (by intro z; cases z)
    have J5 : Inv (X.suite ea) pins σ1 H4 s4 := J4.suite
    refine ld_glob J5 hg hm ?_ hdb
    obtain ⟨a0, q4⟩ := XO.at J4.hok e4
    have K4 := J4.kIn
    have J6 := J4.blank
    obtain ⟨hh4, g4, d4, tk4, os4⟩ := s4
    refine x_match (K4 _ _ lk) (K4 _ _ lk') BW cW q4 rfl ?_
    refine codeAny_handlers_suite_as ?_
    refine flight_ok J4 e4 t4 fun s5 J7 => ?_
    rw [upd_id t4] at J7
    refine store_ok J7.blank hN hx (.inl hl) (v := .ref ea) rfl (fun s6 J8 => ?_) (.inr hl)
    refine wpAny_mono (hh ea pins s6 _ H4 _ (J8.suite (ea := ea)) qh) (fun fl s7 q7 => ?_) fun _ _ z => z.elim
    have done : ∀ {σ7 : St} {H7 : Hp}, Inv (X.suite ea) pins σ7 H7 s7 → ∀ R : St → Hp → Flow → Prop, R (blank X.N.length) H7 fl → (∀ s8, Inv X pins (blank X.N.length) H7 s8 → R (blank X.N.length) H7 fl → SP X pins D fl s8) →
        wpAny (model X.prog X.w) X.A (do bindName X.env x .none; unbindBehindTheSuite X.env x hpos) (fun _ s8 => SP X pins D fl s8) X.xe s7 := fun {σ7 H7} J R r k => by
      have J' := J.unsuite I.ok
      obtain ⟨m, hm', _⟩ := id J'.loc
      refine wpAny_nameGoes hl hm' (by rw [I.ok.kind]; rfl) fun h8 m8 hn8 hs8 => ?_
      exact k _ (J'.lost hn8 hs8) r
    cases fl with
    | next =>
      obtain ⟨σ7, H7, J9, r⟩ := q7
      exact done J9 (fun σ H _ => D.nx σ H) r fun s8 J10 r => ⟨_, _, J10, r⟩
    | brk =>
      obtain ⟨σ7, H7, J9, r⟩ := q7
      exact done J9 (fun σ H _ => D.bk σ H) r fun s8 J10 r => ⟨_, _, J10, r⟩
    | cont =>
      obtain ⟨σ7, H7, J9, r⟩ := q7
      exact done J9 (fun σ H _ => D.ct σ H) r fun s8 J10 r => ⟨_, _, J10, r⟩
    | ret u =>
      obtain ⟨v, σ7, H7, J9, ru, r⟩ := q7
      exact done J9 (fun _ H _ => D.rt v H) r fun s8 J10 r => ⟨v, _, _, J10, ru, r⟩
  refine wpAny_mono (hb pins _ pass [] s σ H D I.guard h1) (fun fl s1 q => ?_) fun _ _ z => z
  have un : SP X pins D fl s1 := by
    cases fl with
    | next => obtain ⟨σ', H', J, r⟩ := q; exact ⟨σ', H', J.unguard, r⟩
    | brk => obtain ⟨σ', H', J, r⟩ := q; exact ⟨σ', H', J.unguard, r⟩
    | cont => obtain ⟨σ', H', J, r⟩ := q; exact ⟨σ', H', J.unguard, r⟩
    | ret u => obtain ⟨v, σ', H', J, ru, r⟩ := q; exact ⟨v, σ', H', J.unguard, ru, r⟩
  cases fl with
  | next => exact wpAny_execs_nil un
  | brk => exact un
  | cont => exact un
  | ret u => exact un
end
end L2
set_option Elab.async false
set_option linter.all false
set_option maxRecDepth 100000
set_option maxHeartbeats 4000000
namespace L2
open PySem PySem.Spec PyProof.Rows
def StrIt (h : Heap) (a : Addr) (x : Str) (i : Nat) : Prop := ∃ ty t, h.IsStrIter a ty x t i ∧ (ty = "str_ascii_iterator" ∨ ty = "str_iterator")
theorem StrIt.at {h h' : Heap} {a : Addr} {x : Str} {i : Nat} (st : StrIt h a x i) (k : ∀ o, h.get? a = some o → h'.get? a = some o) : StrIt h' a x i := by
  obtain ⟨ty, t, ⟨o, e, r⟩, z⟩ := st
  exact ⟨ty, t, ⟨o, k o e, r⟩, z⟩
theorem StrIt.obj {h : Heap} {a : Addr} {x : Str} {i : Nat} (st : StrIt h a x i) : ∃ o, h.get? a = some o ∧ ∀ v, o.data ≠ .cell v := by
  obtain ⟨ty, t, ⟨o, e, c, d⟩, z⟩ := st
  exact ⟨o, e, fun v q => by rw [d] at q; cases q⟩
section
variable {prog : Program} {w : World} {A : Around} {E : Value → Shared → Prop} {s : Shared} {a : Addr} {x : Str} {i c : Nat}
theorem iterStr {t : Tok} {Q : Value → Shared → Prop} (h : ∀ o : Obj, StrIt (s.heap.push o) s.heap.objs.size x 0 → Q (.ref s.heap.objs.size) { s with heap := s.heap.push o }) : wpAny (model prog w) A (pyIter (.str x t)) Q E s := by
  refine wpAny_pyIter_strU (h _ ?_)
  have e := Heap.get?_push_size s.heap (o := { cls := .type (strIterType x), data := .fields #[.str x t, .int 0 0] }) rfl
  refine ⟨strIterType x, t, ⟨_, e, rfl, rfl⟩, ?_⟩
  unfold strIterType
  split
  · exact .inl rfl
  · exact .inr rfl
end
structure Z3 (n : Nat) (x y z : Str) (i : Nat) (f0 : Value) (h : Heap) : Prop where
  zz : h.get? (n + 5) = some { cls := .type "zip", dict := none, data := .fields #[f0, .bool false, .bool false, .ref (n + 3), .ref (n + 4)], slots := #[] }
  ti : h.get? (n + 3) = some { cls := .type "tuple", data := .seq #[.ref n, .ref (n + 1), .ref (n + 2)] }
  to : ∃ a b c, h.get? (n + 4) = some { cls := .type "tuple", data := .seq #[a, b, c] }
  i1 : StrIt h n x i
  i2 : StrIt h (n + 1) y i
  i3 : StrIt h (n + 2) z i
structure Z2 (n : Nat) (x y : Str) (i : Nat) (f0 : Value) (h : Heap) : Prop where
  zz : h.get? (n + 4) = some { cls := .type "zip", dict := none, data := .fields #[f0, .bool false, .bool false, .ref (n + 2), .ref (n + 3)], slots := #[] }
  ti : h.get? (n + 2) = some { cls := .type "tuple", data := .seq #[.ref n, .ref (n + 1)] }
  to : ∃ a b, h.get? (n + 3) = some { cls := .type "tuple", data := .seq #[a, b] }
  i1 : StrIt h n x i
  i2 : StrIt h (n + 1) y i
section
variable {prog : Program} {w : World} {A : Around} {E : Value → Shared → Prop} {s : Shared} {n : Nat} {x y z : Str} {i c1 c2 c3 : Nat}
end
end L2
set_option Elab.async false
set_option linter.all false
set_option maxRecDepth 100000
set_option maxHeartbeats 4000000
namespace L2
open PySem PySem.Spec PyProof.Rows
section
variable {prog : Program} {w : World} {A : Around} {E : Value → Shared → Prop} {s : Shared} {n : Nat} {x y z : Str} {i c1 c2 c3 : Nat}
end
end L2
set_option Elab.async false
set_option linter.all false
set_option maxRecDepth 100000
set_option maxHeartbeats 4000000
namespace L2
open PySem PySem.Spec PyProof.Rows
section
variable {X : Cx} {pins : List (Addr × Obj)} {σ : St} {H : Hp} {s : Shared} {h' : Heap} {t' : Nat} {fp : List Addr}
end
def sg (x : Str) (i : Nat) : V := .str ⟨#[x.cps.getD i 0]⟩
theorem sg_at {x : Str} {i : Nat} (h : i < x.length) : x.cps[i]? = some (x.cps.getD i 0) := by
  have h' : i < x.cps.size := h
  simp [Array.getD_eq_getD_getElem?, h']
def Its (x : Str) : It := ⟨fun i _ => i < x.length, fun i H v H' => H' = H ∧ v = sg x i, fun i _ => x.length ≤ i⟩
section
variable {P : Program} {w : World} {K : PySem.W.Frag}
theorem turn_str {tg : Expr} (x : Str) (it : Addr) : Turn P w K tg (Its x) [it] it (fun i h => StrIt h it x i) where
  mem := by simp
  obj := fun i h st b hb => by
    have e : b = it := by simpa using hb
    subst e
    exact st.obj
  keep := fun i h h' st k => st.at fun o e => k it (by simp) o e
  item := by
    intro X hP hw hK hc i pins s σ H E I hf st hg
    subst hP hw hK
    obtain ⟨f0, f1, f2, f3, f4, f5⟩ := hf it (by simp)
    obtain ⟨ty, t, st, z⟩ := st
    have fin : ∀ h' t' tk, (z : ty = "str_ascii_iterator" ∨ ty = "str_iterator") → h'.IsStrIter it ty x t (i + 1) → Heap.SameBut it s.heap h' → ∃ u, some (Value.str ⟨#[x.cps.getD i 0]⟩ t') = some u ∧
        wpAny (model X.prog X.w) X.A (letOwnedTupleGo tg (.ref it) u) (fun _ s2 => ∃ v H', Inv X pins σ H' s2 ∧ RelV v u ∧ (Its x).yld i H v H' ∧ StrIt s2.heap it x (i + 1) ∧ ∀ b ∈ [it], H' b = none) E { s with heap := h', toks := tk } := by
      intro h' t' tk z st' sb
      have I1 : Inv X pins σ H { s with heap := h', toks := tk } := I.turned (fun b o hb e => (sb.2 b hb).trans e) f0 f1 f3 f4 f5
      obtain ⟨o, e, c, d⟩ := id st'
      exact ⟨_, rfl, go_of (s := { s with heap := h', toks := tk }) e c d (by rcases z with rfl | rfl <;> decide) ⟨sg x i, H, I1, ⟨t', rfl⟩, ⟨rfl, rfl⟩, ⟨ty, t, st', z⟩, fun b hb => (hf b hb).1⟩⟩
    rcases z with rfl | rfl
    · exact wpAny_pyNext_ascii_item st (sg_at hg) fun h' st' sb => fin h' _ _ (.inl rfl) st' sb
    · exact wpAny_pyNext_wide_item st (sg_at hg) fun h' st' sb => fin h' _ _ (.inr rfl) st' sb
  done := by
    intro X hP hw hK hc i pins s σ H E I hf st hg
    subst hP hw hK
    obtain ⟨f0, f1, f2, f3, f4, f5⟩ := hf it (by simp)
    have hx : x.cps[i]? = none := Array.getElem?_eq_none hg
    obtain ⟨ty, t, st, z⟩ := st
    rcases z with rfl | rfl
    · exact wpAny_pyNext_ascii_end (I.ok.hd hc) st hx fun h' eb => ⟨rfl, I.turned (t' := s.toks) (fun b o hb e => eb b o hb e) f0 f1 f3 f4 f5⟩
    · exact wpAny_pyNext_wide_end (I.ok.hd hc) st hx fun h' eb => ⟨rfl, I.turned (t' := s.toks) (fun b o hb e => eb b o hb e) f0 f1 f3 f4 f5⟩
  self := fun A i s Q E st h => by
    obtain ⟨ty, t, st, z⟩ := st
    rcases z with rfl | rfl
    · exact wpAny_pyIter_striter_ascii st h
    · exact wpAny_pyIter_striter_wide st h
def fp3 (n : Nat) : List Addr := [n, n + 1, n + 2, n + 3, n + 4, n + 5]
def fp2 (n : Nat) : List Addr := [n, n + 1, n + 2, n + 3, n + 4]
theorem Z3.keep {n : Nat} {x y z : Str} {i : Nat} {f : Value} {h h' : Heap} (Z : Z3 n x y z i f h) (k : ∀ b ∈ fp3 n, ∀ o, h.get? b = some o → h'.get? b = some o) : Z3 n x y z i f h' := by
  obtain ⟨hz, hTI, ⟨a, b, c, hTO⟩, i1, i2, i3⟩ := Z
  exact ⟨k _ (by simp [fp3]) _ hz, k _ (by simp [fp3]) _ hTI, ⟨a, b, c, k _ (by simp [fp3]) _ hTO⟩, i1.at (k _ (by simp [fp3])), i2.at (k _ (by simp [fp3])), i3.at (k _ (by simp [fp3]))⟩
theorem Z2.keep {n : Nat} {x y : Str} {i : Nat} {f : Value} {h h' : Heap} (Z : Z2 n x y i f h) (k : ∀ b ∈ fp2 n, ∀ o, h.get? b = some o → h'.get? b = some o) : Z2 n x y i f h' := by
  obtain ⟨hz, hTI, ⟨a, b, hTO⟩, i1, i2⟩ := Z
  exact ⟨k _ (by simp [fp2]) _ hz, k _ (by simp [fp2]) _ hTI, ⟨a, b, k _ (by simp [fp2]) _ hTO⟩, i1.at (k _ (by simp [fp2])), i2.at (k _ (by simp [fp2]))⟩
theorem Z3.ob {n : Nat} {x y z : Str} {i : Nat} {f : Value} {h : Heap} (Z : Z3 n x y z i f h) : ∀ b ∈ fp3 n, ∃ o, h.get? b = some o ∧ ∀ v, o.data ≠ .cell v := by
  obtain ⟨hz, hTI, ⟨a, b, c, hTO⟩, i1, i2, i3⟩ := Z
  intro b hb
  unfold fp3 at hb
  simp only [List.mem_cons, List.not_mem_nil, or_false] at hb
  rcases hb with rfl | rfl | rfl | rfl | rfl | rfl
  · exact i1.obj
  · exact i2.obj
  · exact i3.obj
  · exact ⟨_, hTI, fun v q => by cases q⟩
  · exact ⟨_, hTO, fun v q => by cases q⟩
  · exact ⟨_, hz, fun v q => by cases q⟩
theorem Z2.ob {n : Nat} {x y : Str} {i : Nat} {f : Value} {h : Heap} (Z : Z2 n x y i f h) : ∀ b ∈ fp2 n, ∃ o, h.get? b = some o ∧ ∀ v, o.data ≠ .cell v := by
  obtain ⟨hz, hTI, ⟨a, b, hTO⟩, i1, i2⟩ := Z
  intro b hb
  unfold fp2 at hb
  simp only [List.mem_cons, List.not_mem_nil, or_false] at hb
  rcases hb with rfl | rfl | rfl | rfl | rfl
  · exact i1.obj
  · exact i2.obj
  · exact ⟨_, hTI, fun v q => by cases q⟩
  · exact ⟨_, hTO, fun v q => by cases q⟩
  · exact ⟨_, hz, fun v q => by cases q⟩
end
section
variable {X : Cx}
def iStr (tl : TE) : TI := fun σ H R => tl σ H fun x H1 => ∃ z, x = .str z ∧ R (Its z) H1
theorem pi_str {tg l : Expr} {tl : TE} (hl : PE X l tl) : PI X tg l (iStr tl) := by
  intro pins s σ H R I h
  refine thn (hl pins s σ H _ I h) fun v s1 ⟨x, H1, I1, r1, q1⟩ => ?_
  obtain ⟨z, rfl, q⟩ := q1
  obtain ⟨t, rfl⟩ := r1
  refine iterStr fun o st => ?_
  refine ⟨s1.heap.objs.size, [s1.heap.objs.size], _, _, H1, rfl, I1.kept (t' := s1.toks) fun b o e => Heap.get?_push_of_some _ e, turn_str z _, st, fun b hb => ?_, q⟩
  have e : b = s1.heap.objs.size := by simpa using hb
  subst e
  exact I1.fpOk (Nat.le_refl _) (I1.hok.fresh (Nat.le_refl _))
end
end L2
set_option Elab.async false
set_option linter.all false
set_option maxRecDepth 100000
set_option maxHeartbeats 4000000
namespace L2
open PySem PySem.Spec PyProof.Rows
inductive Kd where
  | non | bl | int | str | lst | tup
  deriving DecidableEq
def kdIs (K : PySem.W.Frag) (H : Hp) : V → Kd → Prop
  | .non, .non => True
  | .bl _, .bl => True
  | .int _, .int => True
  | .str _, .str => True
  | .ref a, .lst => ∃ xs, SqL K H a xs
  | .ref a, .tup => ∃ xs, SqT K H a xs
  | _, _ => False
def isT : Kd → String → Option Bool
  | .non, "str" => some false | .non, "int" => some false | .non, "bool" => some false | .non, "list" => some false | .non, "tuple" => some false
  | .bl, "str" => some false | .bl, "int" => some true | .bl, "bool" => some true | .bl, "list" => some false | .bl, "tuple" => some false
  | .int, "str" => some false | .int, "int" => some true | .int, "bool" => some false | .int, "list" => some false | .int, "tuple" => some false
  | .str, "str" => some true | .str, "int" => some false | .str, "bool" => some false | .str, "list" => some false | .str, "tuple" => some false
  | .lst, "str" => some false | .lst, "int" => some false | .lst, "bool" => some false | .lst, "list" => some true | .lst, "tuple" => some false
  | .tup, "str" => some false | .tup, "int" => some false | .tup, "bool" => some false | .tup, "list" => some false | .tup, "tuple" => some true
  | _, _ => none
section
variable {X : Cx}
theorem call_isi : CallR X (.builtin "isinstance") (fun xs H Q => ∃ x k T b, xs = [x, .ty T] ∧ kdIs X.K H x k ∧ isT k T = some b ∧ Q (.bl b) H) := by
  intro pins s σ H xs us Q I r h
  obtain ⟨x, k, T, b, rfl, hk, ht, q⟩ := h
  obtain ⟨u, v, rfl, ru, rv⟩ := r.two
  cases rv
  have J : ∀ t, EP X pins σ Q (.bool b) { s with toks := t } := fun t => ⟨.bl b, H, I.tok t, rfl, q⟩
  have J0 : EP X pins σ Q (.bool b) s := ⟨.bl b, H, I, rfl, q⟩
  have lst : ∀ a ys, SqL X.K H a ys → ∃ o, s.heap.get? a = some o ∧ o.cls = .type "list" := fun a ys hq => by
    obtain ⟨its, _, ⟨o, n, e, c, _⟩, _⟩ := I.list hq
    exact ⟨o, e, c⟩
  have tup : ∀ a ys, SqT X.K H a ys → ∃ o, s.heap.get? a = some o ∧ o.cls = .type "tuple" := fun a ys hq => by
    obtain ⟨its, _, ⟨o, e, c, _⟩, _⟩ := I.tuple hq
    exact ⟨o, e, c⟩
  unfold isT at ht
  split at ht <;> cases ht <;> cases x <;> first | exact hk.elim | skip
  · cases ru; exact IsiPair.NoneType_str (J _)
  · cases ru; exact IsiPair.NoneType_int (J _)
  · cases ru; exact IsiPair.NoneType_bool (J _)
  · cases ru; exact IsiPair.NoneType_list (J _)
  · cases ru; exact IsiPair.NoneType_tuple (J _)
  · cases ru; exact IsiPair.bool_str (J _)
  · cases ru; exact IsiPair.bool_int J0
  · cases ru; exact IsiPair.bool_bool J0
  · cases ru; exact IsiPair.bool_list (J _)
  · cases ru; exact IsiPair.bool_tuple (J _)
  · obtain ⟨t, rfl⟩ := ru; exact IsiPair.int_str (J _)
  · obtain ⟨t, rfl⟩ := ru; exact IsiPair.int_int J0
  · obtain ⟨t, rfl⟩ := ru; exact IsiPair.int_bool (J _)
  · obtain ⟨t, rfl⟩ := ru; exact IsiPair.int_list (J _)
  · obtain ⟨t, rfl⟩ := ru; exact IsiPair.int_tuple (J _)
  · obtain ⟨t, rfl⟩ := ru; exact IsiPair.str_str J0
  · obtain ⟨t, rfl⟩ := ru; exact IsiPair.str_int (J _)
  · obtain ⟨t, rfl⟩ := ru; exact IsiPair.str_bool (J _)
  · obtain ⟨t, rfl⟩ := ru; exact IsiPair.str_list (J _)
  · obtain ⟨t, rfl⟩ := ru; exact IsiPair.str_tuple (J _)
  · cases ru; obtain ⟨ys, hq⟩ := hk; obtain ⟨o, e, c⟩ := lst _ _ hq; exact IsiPair.list_str e c (J _)
  · cases ru; obtain ⟨ys, hq⟩ := hk; obtain ⟨o, e, c⟩ := lst _ _ hq; exact IsiPair.list_int e c (J _)
  · cases ru; obtain ⟨ys, hq⟩ := hk; obtain ⟨o, e, c⟩ := lst _ _ hq; exact IsiPair.list_bool e c (J _)
  · cases ru; obtain ⟨ys, hq⟩ := hk; obtain ⟨o, e, c⟩ := lst _ _ hq; exact IsiPair.list_list e c J0
  · cases ru; obtain ⟨ys, hq⟩ := hk; obtain ⟨o, e, c⟩ := lst _ _ hq; exact IsiPair.list_tuple e c (J _)
  · cases ru; obtain ⟨ys, hq⟩ := hk; obtain ⟨o, e, c⟩ := tup _ _ hq; exact IsiPair.tuple_str e c (J _)
  · cases ru; obtain ⟨ys, hq⟩ := hk; obtain ⟨o, e, c⟩ := tup _ _ hq; exact IsiPair.tuple_int e c (J _)
  · cases ru; obtain ⟨ys, hq⟩ := hk; obtain ⟨o, e, c⟩ := tup _ _ hq; exact IsiPair.tuple_bool e c (J _)
  · cases ru; obtain ⟨ys, hq⟩ := hk; obtain ⟨o, e, c⟩ := tup _ _ hq; exact IsiPair.tuple_list e c (J _)
  · cases ru; obtain ⟨ys, hq⟩ := hk; obtain ⟨o, e, c⟩ := tup _ _ hq; exact IsiPair.tuple_tuple e c J0
theorem vals_bl : ∀ {bs : List Bool} {us : List Value}, Vals (bs.map V.bl) us → us = bs.map Value.bool
  | [], _, h => by cases h; rfl
  | b :: r, us, h => by
    cases h with
    | cons r1 r2 => cases r1; rw [vals_bl r2]; rfl
theorem all_range : ∀ (bs : List Bool), ((List.range bs.length).all fun i => bs.getD i false) = bs.all id := fun bs => by
  have e : (List.range bs.length).map (fun i => bs.getD i false) = bs := by
    apply List.ext_getElem
    · simp
    · intro i h1 h2
      simp at h1
      simp [h1]
  conv => rhs; rw [← e]
  rw [List.all_map]; rfl
theorem truth_bl {prog : Program} {w : World} {A : Around} (bs : List Bool) : TruthOf prog w A (fun i v => ((bs.map Value.bool).toArray)[i]? = some v) (fun i => bs.getD i false) := by
  intro i v s Q E hP hQ
  have hP : (bs.map Value.bool)[i]? = some v := by simpa using hP
  rw [List.getElem?_map] at hP
  cases e : bs[i]? with
  | none => rw [e] at hP; cases hP
  | some b =>
    rw [e] at hP
    cases hP
    refine wpAny_truthy_bool ?_
    have : bs.getD i false = b := by rw [List.getD_eq_getElem?_getD, e]; rfl
    have hQ : Q (bs.getD i false) s := hQ
    rw [this] at hQ
    exact hQ
theorem call_all (hc : X.calm = true) : CallR X (.builtin "all") (fun xs H Q => ∃ (a : Addr) (bs : List Bool), xs = [.ref a] ∧ SqL X.K H a (bs.map V.bl) ∧ Q (.bl (bs.all id)) H) := by
  intro pins s σ H xs us Q I r h
  obtain ⟨a, bs, rfl, hq, q⟩ := h
  obtain ⟨u, rfl, ru⟩ := r.one
  cases ru
  obtain ⟨its, rv, p, hz⟩ := I.list hq
  have ei := vals_bl rv
  subst ei
  refine call_all_walk (wpAny_pyIter_list p.isList ?_)
  have ne : a ≠ s.heap.objs.size := by obtain ⟨o, n, e, _⟩ := p; exact Nat.ne_of_lt (Heap.lt_size e)
  have hh : X.A.in1.handled = none := I.ok.hd hc
  refine ⟨s.heap.objs.size, _, _, _, _, _, _, rfl, Walks.list hh _ a ne (bs.map Value.bool).toArray, ⟨⟨_, Heap.get?_push_size _ rfl, rfl, rfl⟩, p.isList.push _⟩, truth_bl bs, fun h' tk kk => ?_⟩
  have e2 : (List.range (bs.map Value.bool).toArray.size).all (fun i => bs.getD i false) = bs.all id := by
    rw [List.size_toArray, List.length_map]; exact all_range bs
  rw [e2]
  exact ⟨.bl (bs.all id), H, I.kept fun b o e => kk b o (fun z => by
    have z : b = s.heap.objs.size := by simpa using z
    exact absurd (Heap.lt_size e) (by rw [z]; exact Nat.lt_irrefl _)) (Heap.get?_push_of_some _ e), rfl, q⟩
end
end L2
set_option Elab.async false
set_option linter.all false
set_option maxRecDepth 100000
set_option maxHeartbeats 4000000
namespace L2
open PySem PySem.Spec PyProof.Rows
structure Df (K : PySem.W.Frag) (mg : Str → Option Value) (x : Str) (st : Stmt) (ps : List Str) (f : Addr) (fd : FuncData) : Prop where
  F : Fun K x x st f fd
  mg : mg x = some (.ref f)
  b : Binds K fd ps []
theorem passN {P : Program} {w : World} {X : Cx} : Passes (CXE P w) X E0 := fun _ _ _ _ _ _ _ h => by
  obtain ⟨_, _, _, _, _, _, _, _, _, _, _, _, _, _, _, q⟩ := h
  exact q.elim
section
variable {P : Program} {w : World} {K : PySem.W.Frag} {mg : Str → Option Value} {base : Heap}
theorem Fun.okN {x qual : Str} {st : Stmt} {f : Addr} {fd : FuncData} {N ps : List Str} {k : Nat} {sp : Sp} (F : Fun K x qual st f fd) (S : FnScope N ps (defScope st)) (len : ∀ vs H Q E, sp vs H Q E → vs.length = ps.length)
    (hbody : ∀ (cdv : Value) (A : Around) (outer : List Env) (s : Shared) (H : Hp) (vs : List V) (Q : VK) (E : XK), Room k (A.deeper (envOfC qual (defScope st) s.heap.objs.size f cdv)) → sp vs H Q E →
      ∃ t, PSs (cxOf (CXE P w) P w K mg base N qual (defScope st) f cdv A outer s H E).nox (defBody st) t ∧ t { nx := fun _ H' => Q .non H', rt := Q } (start N vs) H) : FnOk P w K mg base (CXE P w) (k + 1) f fd ps sp := by
  obtain ⟨oc, od, kV, doc, pm, an, cdv, ct, osl, rfl, lk, hcd⟩ := F.ex
  refine fn_of lk hcd S len fun A outer s H vs Q E hr hsp => ?_
  obtain ⟨t, h, q⟩ := hbody cdv A outer s H vs Q E hr hsp
  exact ⟨t, h.nox, q⟩
theorem Fun.okE {x qual : Str} {st : Stmt} {f : Addr} {fd : FuncData} {N ps : List Str} {k : Nat} {sp : Sp} (F : Fun K x qual st f fd) (S : FnScope N ps (defScope st)) (len : ∀ vs H Q E, sp vs H Q E → vs.length = ps.length)
    (hbody : ∀ (cdv : Value) (A : Around) (outer : List Env) (s : Shared) (H : Hp) (vs : List V) (Q : VK) (E : XK), Room k (A.deeper (envOfC qual (defScope st) s.heap.objs.size f cdv)) → sp vs H Q E →
      ∃ t, PSs (cxOf (CXE P w) P w K mg base N qual (defScope st) f cdv A outer s H E) (defBody st) t ∧ t { nx := fun _ H' => Q .non H', rt := Q } (start N vs) H) : FnOk P w K mg base (CXE P w) (k + 1) f fd ps sp := by
  obtain ⟨oc, od, kV, doc, pm, an, cdv, ct, osl, rfl, lk, hcd⟩ := F.ex
  exact fn_of lk hcd S len fun A outer s H vs Q E hr hsp => hbody cdv A outer s H vs Q E hr hsp
theorem df_mk {h : Heap} (X : K.In h) (G : h.Ns mainGlobals mg) {x : Str} {st : Stmt} {ps : List Str} {f : Addr} {oc : Value} {od an : Option Addr} {osl : Array (Option Value)} {kV doc pm cdv ct : Value} (a : PySem.W.nsIn K mainGlobals x = some (some (.ref f)))
    (l : K.lookup f = some ⟨oc, od, .func (PySem.W.fnOf x x (defArgs st) (defBody st) (defScope st) .none kV doc pm an cdv ct), osl⟩) (c : PySem.W.codeIn K cdv x = true) (k : PySem.W.keepIn K (.ref f) = true)
    (hb : ∀ (kV doc pm : Value) (an : Option Addr) (cdv ct : Value) (us : List Value), us.length = ps.length → bindArgs (PySem.W.fnOf x x (defArgs st) (defBody st) (defScope st) .none kV doc pm an cdv ct) ⟨us, []⟩ = pure (ps.zip us)) :
    Df K mg x st ps f (PySem.W.fnOf x x (defArgs st) (defBody st) (defScope st) .none kV doc pm an cdv ct) :=
  have F := fun_mk (st := st) l c k
  ⟨F, PySem.W.mg_of X G a, F.binds hb⟩
end
section
variable {X : Cx} {k : Nat} {f : Addr} {fd : FuncData} {ps : List Str} {sp : Sp} {x : Str} {st : Stmt} {p pos : Pos} {e : Expr} {es : List Expr} {t : TA} {E : XK}
theorem pe_fn (D : Df X.K X.mg x st ps f fd) (G : FnOk X.prog X.w X.K X.mg X.base (CXE X.prog X.w) k f fd ps sp) (hr : Room k X.A) (hx : Passes (CXE X.prog X.w) X E) (ha : PA X (e :: es) t) (hg : Gl X x := by rfl)
    (hdb : (x == ("__debug__" : Str)) = false := by decide) (he : starEach (e :: es) X.env = (false, eval e X.env) :: starEach es X.env := by rfl) (hpl : (backTo pos (starEach es X.env)).any (·.1) = false := by rfl) :
    PE X (.Call (.Name x p) (e :: es) [] pos) (tCall sp [] E t) := pe_call G hr hg D.mg D.F.kp D.b .nil hx ha hdb he hpl
end
def cd (b : Bool) : Nat := if b then 121 else 110
def sn (b : Bool) : V := .str ⟨#[cd b]⟩
inductive Dt where
  | non | bl (b : Bool) | int (i : Int) | str (x : Str) | lst (ds : List Dt) | tup (ds : List Dt)
inductive Den (K : PySem.W.Frag) (H : Hp) : V → Dt → Prop
  | non : Den K H .non .non
  | bl (b : Bool) : Den K H (.bl b) (.bl b)
  | int (i : Int) : Den K H (.int i) (.int i)
  | str (x : Str) : Den K H (.str x) (.str x)
  | lst {a : Addr} {xs : List V} {ds : List Dt} : SqL K H a xs → xs.length = ds.length → ds.length ≤ 5000 → (∀ (i : Nat) x d, xs[i]? = some x → ds[i]? = some d → Den K H x d) → Den K H (.ref a) (.lst ds)
  | tup {a : Addr} {xs : List V} {ds : List Dt} : SqT K H a xs → xs.length = ds.length → ds.length ≤ 5000 → (∀ (i : Nat) x d, xs[i]? = some x → ds[i]? = some d → Den K H x d) → Den K H (.ref a) (.tup ds)
theorem Same.seqT {K : PySem.W.Frag} {H H' : Hp} {a : Addr} {xs : List V} (e : Same H H') (h : SqT K H a xs) : SqT K H' a xs := by
  rcases h with (h | ⟨o, h⟩) | h
  · exact .inl (.inl (e _ _ h))
  · exact .inl (.inr ⟨o, e _ _ h⟩)
  · exact .inr h
theorem Den.mono {K : PySem.W.Frag} {H H' : Hp} (e : Same H H') : ∀ {v : V} {d : Dt}, Den K H v d → Den K H' v d := by
  intro v d h
  induction h with
  | non => exact .non
  | bl b => exact .bl b
  | int i => exact .int i
  | str x => exact .str x
  | lst h1 h2 h3 _ ih => exact .lst (e.seq h1) h2 h3 ih
  | tup h1 h2 h3 _ ih => exact .tup (e.seqT h1) h2 h3 ih
def Dt.deep : Dt → Nat
  | .lst ds => 1 + deeps ds
  | .tup ds => 1 + deeps ds
  | _ => 0
where deeps : List Dt → Nat
  | [] => 0
  | d :: r => max d.deep (deeps r)
theorem deep_mem : ∀ {ds : List Dt} {i : Nat} {d : Dt}, ds[i]? = some d → d.deep ≤ Dt.deep.deeps ds
  | _ :: _, 0, _, h => by simp at h; subst h; exact Nat.le_max_left _ _
  | _ :: r, i + 1, d, h => Nat.le_trans (deep_mem (ds := r) (i := i) (by simpa using h)) (Nat.le_max_right _ _)
def Dt.eqb : Dt → Dt → Bool
  | .non, .non => true
  | .bl a, .bl b => a == b
  | .int a, .int b => a == b
  | .str a, .str b => decide (a = b)
  | .lst a, .lst b => eqbs a b
  | .tup a, .tup b => eqbs a b
  | _, _ => false
where eqbs : List Dt → List Dt → Bool
  | [], [] => true
  | a :: r, b :: s => a.eqb b && eqbs r s
  | _, _ => false
theorem Same.new {H : Hp} {p : Addr} {o : HO} (h : H p = none) : Same H (upd H p o) := fun b u e => by rw [upd_ne (ne_of_none e h)]; exact e
end L2
namespace L2
open PySem PySem.Spec PyProof.Rows
section
variable {X : Cx} {st : Stmt} {t : TS}
def tCut (M : St → Hp → Prop) (t : TS) : TS := fun D σ H => t { D with nx := M } σ H ∧ ∀ σ' H', M σ' H' → D.nx σ' H'
theorem ps_cut (M : St → Hp → Prop) (h : PS X st t) : PS X st (tCut M t) := by
  intro pins s σ H D I q
  obtain ⟨q1, q2⟩ := q
  refine thn (h pins s σ H _ I q1) fun f s1 r => ?_
  cases f with
  | next => obtain ⟨σ', H', J, m⟩ := r; exact ⟨σ', H', J, q2 σ' H' m⟩
  | ret v => exact r
  | brk => exact r
  | cont => exact r
end
end L2
namespace L2
open PySem PySem.Spec PyProof.Rows
section
variable {p : Addr} {g : TG} {tt : TT} {te : TE} {σ0 : St} {H0 : Hp} {Q : Hp → Prop} {x y z : Str}
theorem blk_str (Pv : Nat → St → Hp → Prop) (h0 : Pv 0 σ0 H0) (hs : ∀ i σ H, i < x.length → Pv i σ H → BlkTurn p g tt te (Pv (i + 1)) (sg x i) σ H) (hd : ∀ σ H, Pv x.length σ H → Q H) : tBlk (Its x) p g tt te σ0 H0 Q := by
  refine ⟨fun i m σ H => m = x.length - i ∧ i ≤ x.length ∧ Pv i σ H, ⟨x.length, by simp, Nat.zero_le _, h0⟩, ?_⟩
  rintro i m σ H ⟨rfl, hi, q⟩
  by_cases hlt : i < x.length
  · refine .inr ⟨hlt, Pv (i + 1), fun σ' H' r => ⟨x.length - (i + 1), by omega, rfl, hlt, r⟩, fun v H' r => ?_⟩
    obtain ⟨e, r⟩ := r
    subst e r
    exact hs i σ _ hlt q
  · have e : i = x.length := by omega
    subst e
    exact .inl ⟨Nat.le_refl _, hd σ H q⟩
end
theorem turn_all {p : Addr} {i : Nat} {te : TE} {N : St → Hp → Prop} {x : V} {σ : St} {H : Hp} (h : te (σ.set i (some x)) H fun v H4 => ∃ ys, H4 p = some (.lst ys) ∧ ys.length < sizeLine ∧ N (σ.set i (some x)) (upd H4 p (.lst (ys ++ [v])))) :
    BlkTurn p (gName i) tAll te N x σ H := by
  exact iteT (B := N (σ.set i (some x)) H) h
theorem FnOk.no {P : Program} {w : World} {K : PySem.W.Frag} {mg : Str → Option Value} {base : Heap} {CX : CXT} {k : Nat} {f : Addr} {fd : FuncData} {ps : List Str} : FnOk P w K mg base CX k f fd ps (fun _ _ _ _ => False) :=
  ⟨fun _ _ _ _ h => h.elim, fun _ _ _ _ _ _ _ _ _ _ _ _ _ h => h.elim⟩
theorem Den.kd {K : PySem.W.Frag} {H : Hp} {v : V} {d : Dt} (h : Den K H v d) : kdIs K H v (match d with | .non => .non | .bl _ => .bl | .int _ => .int | .str _ => .str | .lst _ => .lst | .tup _ => .tup) := by
  cases h with
  | non => trivial
  | bl => trivial
  | int => trivial
  | str => trivial
  | lst h1 _ _ _ => exact ⟨_, h1⟩
  | tup h1 _ _ _ => exact ⟨_, h1⟩
theorem eqbs_all : ∀ (a b : List Dt), a.length = b.length → Dt.eqb.eqbs a b = ((a.zip b).map fun q => q.1.eqb q.2).all id
  | [], [], _ => rfl
  | x :: r, y :: s, h => by
    show (x.eqb y && Dt.eqb.eqbs r s) = _
    rw [eqbs_all r s (by simpa using h)]
    rfl
theorem eqbs_len : ∀ (a b : List Dt), a.length ≠ b.length → Dt.eqb.eqbs a b = false
  | [], [], h => absurd rfl h
  | [], _ :: _, _ => rfl
  | _ :: _, [], _ => rfl
  | x :: r, y :: s, h => by
    show (x.eqb y && Dt.eqb.eqbs r s) = false
    rw [eqbs_len r s (by simpa using h), Bool.and_false]
theorem Den.isN {K : PySem.W.Frag} {H : Hp} {v : V} {d : Dt} (h : Den K H v d) : decide (v = V.non) = d.eqb .non := by cases h <;> rfl
def Dt.kd : Dt → Kd
  | .non => .non | .bl _ => .bl | .int _ => .int | .str _ => .str | .lst _ => .lst | .tup _ => .tup
theorem Den.kdIs {K : PySem.W.Frag} {H : Hp} {v : V} {d : Dt} (h : Den K H v d) : L2.kdIs K H v d.kd := by cases d <;> exact h.kd
end L2
set_option Elab.async false
set_option linter.all false
set_option maxRecDepth 100000
set_option maxHeartbeats 4000000
namespace L2
open PySem PySem.Spec PyProof.Rows
def tx (n : Nat) (c : Nat → Nat) : Str := ⟨((List.range n).map c).toArray⟩
def s1 (c : Nat) : V := .str ⟨#[c]⟩
theorem tx_len (n : Nat) (c : Nat → Nat) : (tx n c).length = n := by show (((List.range n).map c).toArray).size = _; simp
theorem tx_at {n i : Nat} {c : Nat → Nat} (h : i < n) : atI (tx n c).cps.toList (i : Int) = some (c i) := by
  refine atI_nat ?_
  show (((List.range n).map c).toArray.toList)[i]? = _
  simp [h]
theorem tx_atI {n : Nat} {i : Int} {c : Nat → Nat} (h0 : 0 ≤ i) (h : i < n) : atI (tx n c).cps.toList i = some (c i.toNat) := by
  have e : i = ((i.toNat : Nat) : Int) := by omega
  rw [e]
  exact tx_at (by omega)
theorem sg_tx {n i : Nat} {c : Nat → Nat} (h : i < n) : sg (tx n c) i = s1 (c i) := by
  unfold sg s1
  have : (tx n c).cps.getD i 0 = c i := by
    show (((List.range n).map c).toArray).getD i 0 = _
    simp [Array.getD_eq_getD_getElem?, h]
  rw [this]
end L2
namespace L2
open PySem PySem.Spec PyProof.Rows
section
variable {p T : Addr} {K : PySem.W.Frag} {te : TE} {N : St → Hp → Prop} {x y z : V} {σ : St} {H : Hp}
end
theorem Same.trans' {H H1 H2 : Hp} (a : Same H H1) (b : Same H1 H2) : Same H H2 := fun c o e => b c o (a c o e)
theorem Same.grow {H H2 : Hp} {p : Addr} {o : HO} (hp : H p = none) (s : Same H H2) : Same H (upd H2 p o) := fun b u e => by rw [upd_ne (ne_of_none e hp)]; exact s b u e
end L2
namespace L2
open PySem PySem.Spec PyProof.Rows
end L2
set_option Elab.async false
set_option linter.all false
set_option maxRecDepth 100000
set_option maxHeartbeats 1000000
namespace L2
open PySem PySem.Spec PyProof.Rows
def bigB (h : Heap) (H : Hp) (st : List Env) : Heap := PySem.W.hideAll h (trk h H ++ frs st)
theorem bigB_get {h : Heap} {H : Hp} {st : List Env} {b : Addr} {o : Obj} (e : h.get? b = some o) (n : H b = none) (hf : b ∉ frs st) : (bigB h H st).get? b = some o :=
  PySem.W.hideAll_get _ e fun hm => by
    rcases List.mem_append.mp hm with hm | hm
    · have q : (H b).isSome = true := (List.mem_filter.mp hm).2
      rw [n] at q; simp at q
    · exact hf hm
theorem of_bigB {h : Heap} {H : Hp} {st : List Env} {b : Addr} {o : Obj} (e : (bigB h H st).get? b = some o) : h.get? b = some o ∧ H b = none := by
  have e' : h.get? b = some o := PySem.W.of_hideAll _ e
  refine ⟨e', ?_⟩
  cases q : H b with
  | none => rfl
  | some x =>
    have hm : b ∈ trk h H := List.mem_filter.mpr ⟨List.mem_range.mpr (Heap.lt_size e'), by simp [q]⟩
    have z : (bigB h H st).get? b = none := PySem.W.hideAll_none _ (List.mem_append_left _ hm)
    rw [z] at e; cases e
theorem Mod.keeps {K : PySem.W.Frag} {mg : Str → Option Value} {b1 b2 : Heap} (m : Mod K mg b1) (k : ∀ b o, b1.get? b = some o → b2.get? b = some o) : Mod K mg b2 :=
  ⟨m.kin.keeps k, m.glob.keeps k, let ⟨mb, h1, h2⟩ := m.blt; ⟨mb, h1.keeps k, h2⟩, m.nolimit.keeps k⟩
theorem Env0.stays {P : Program} {w : World} {K : PySem.W.Frag} {mg : Str → Option Value} {base : Heap} {A : Around} {outer : List Env} {s : Shared} {H : Hp} (e : Env0 P w K mg base A outer s H) {b : Addr} {o : Obj} (q : base.get? b = some o) : (bigB s.heap H outer).get? b = some o :=
  bigB_get (e.bs b o q).1 (e.bs b o q).2 fun hm => by
    have := (e.funs.mem hm).1
    rw [q] at this; cases this
theorem Env0.big {P : Program} {w : World} {K : PySem.W.Frag} {mg : Str → Option Value} {base : Heap} {A : Around} {outer : List Env} {s : Shared} {H : Hp} (e : Env0 P w K mg base A outer s H) : Env0 P w K mg (bigB s.heap H outer) A outer s H :=
  ⟨e.frames, e.mod.keeps fun _ _ q => e.stays q, fun _ _ q => of_bigB q, Nat.le_of_eq (PySem.W.hideAll_size _ _), PySem.W.funFrames_hide e.funs fun env he a ha => List.mem_append_right _ (List.mem_filterMap.mpr ⟨env, he, ha⟩), e.frf, e.hok, e.bare⟩
def CodeE (c : Addr) (q : Str) : HO := .ext fun h => h.CodeRec (.ref c) q
theorem CodeE.ok {P : Program} {w : World} {H : Hp} {h : Heap} {c : Addr} {q : Str} (r : h.CodeRec (.ref c) q) : ObjOk P w H h c (CodeE c q) := by
  refine ⟨r, ?_, fun h1 h2 r1 k => ?_⟩
  · obtain ⟨_, o, _, _, e, ho, _⟩ := r
    cases e
    exact ⟨o, ho⟩
  · obtain ⟨_, o, vs, t, e, ho, r⟩ := r1
    cases e
    exact ⟨c, o, vs, t, rfl, k o ho, r⟩
structure TabOk (H : Hp) (P : Addr) (q : Str) : Prop where
  ex : ∃ ps, H P = some (.tbl ps) ∧ TriplesOk ps.toList ∧ ∀ pos cv, codeAmong pos ps.toList = some cv → ∃ c, cv = .ref c ∧ c ≠ P ∧ H c = some (CodeE c q)
theorem TabOk.same {H H' : Hp} {P : Addr} {q : Str} (t : TabOk H P q) (e : Same H H') : TabOk H' P q := by
  obtain ⟨ps, h1, h2, h3⟩ := t
  exact ⟨ps, e _ _ h1, h2, fun pos cv z => let ⟨c, e1, e2, e3⟩ := h3 pos cv z; ⟨c, e1, e2, e _ _ e3⟩⟩
theorem among_snoc (pos p2 : Pos) (c v : Value) : ∀ (l : List Value), TriplesOk l → codeAmong pos (l ++ [rawInt p2.line, rawInt p2.col, c]) = some v → codeAmong pos l = some v ∨ v = c
  | [], _, h => by
    rw [List.nil_append] at h
    unfold rawInt at h
    simp only [codeAmong] at h
    split at h
    · exact .inr (Option.some.inj h).symm
    · cases h
  | .int a _ :: .int b _ :: x :: r, ok, h => by
    simp only [List.cons_append, codeAmong] at h ⊢
    split at h
    · rename_i z
      rw [if_pos z]
      exact .inl h
    · rename_i z
      rw [if_neg z]
      exact among_snoc pos p2 c v r ok h
def SameP (P : Addr) (H H' : Hp) : Prop := ∀ b o, b ≠ P → H b = some o → H' b = some o
theorem SameP.refl (P : Addr) (H : Hp) : SameP P H H := fun _ _ _ e => e
theorem SameP.trans {P : Addr} {H H1 H2 : Hp} (a : SameP P H H1) (b : SameP P H1 H2) : SameP P H H2 := fun c o n e => b c o n (a c o n e)
theorem SameP.of {P : Addr} {H H' : Hp} (e : Same H H') : SameP P H H' := fun b o _ q => e b o q
end L2
set_option Elab.async false
set_option linter.all false
set_option maxRecDepth 100000
set_option maxHeartbeats 1000000
namespace L2
open PySem PySem.Spec PyProof.Rows
structure BMain (mg : Str → Option Value) (base : Heap) : Prop where
  ex : ∃ bm ob, mg "__builtins__" = some (.ref bm) ∧ bm ≠ builtinsNs ∧ base.get? bm = some ob ∧ ob.cls = .type "module" ∧ ob.dict = some builtinsNs ∧ ob.data = .plain
theorem BMain.keeps {mg : Str → Option Value} {b1 b2 : Heap} (m : BMain mg b1) (k : ∀ b o, b1.get? b = some o → b2.get? b = some o) : BMain mg b2 :=
  let ⟨bm, ob, e1, e2, e3, r⟩ := m.ex; ⟨bm, ob, e1, e2, k _ _ e3, r⟩
abbrev lamObj (qual : Str) (params : Arguments) (body : Expr) (scope : Scope) (cl : List (Str × Addr)) (pm : Value) (c : Addr) (ctv : Value) : Obj := PySem.W.kla_obj "<lambda>" qual params body scope cl pm c ctv
section
variable {X : Cx} {pins : List (Addr × Obj)} {σ : St} {H : Hp} {s : Shared}
theorem Inv.notStack (I : Inv X pins σ H s) {b : Addr} (h : s.heap.objs.size ≤ b) : b ∉ frs X.stack := fun hm => by
  obtain ⟨_, o, ho, _⟩ := I.stack.mem hm
  exact absurd (Nat.lt_of_lt_of_le (Heap.lt_size ho) h) (Nat.lt_irrefl _)
theorem lam_make {params : Arguments} {body : Expr} {scope : Scope} {pos : Pos} {c P : Addr} {cl : List (Str × Addr)} {Q : Value → Shared → Prop} (I : Inv X pins σ H s) (hdef : defaultsOf params X.env = ([], [])) (hcl : closureFor scope X.env = pure cl) (hcode : X.env.code = .ref c)
    (C : PySem.W.CodeHd X.base c P) (B : BMain X.mg X.base) (T : TabOk H P (X.env.qual ++ "<lambda>"))
    (h : ∀ (f c' : Addr) (ctv : Value) (H1 : Hp) (s1 : Shared), Inv X pins σ H1 s1 → s1.heap.get? f = some (lamObj (X.env.qual ++ "<lambda>") params body scope cl ((X.mg "__name__").getD .none) c' ctv) → H1 f = none → f ∉ frs X.stack →
      H1 c' = some (CodeE c' (X.env.qual ++ "<lambda>")) → TabOk H1 P (X.env.qual ++ "<lambda>") → SameP P H H1 → Q (.ref f) s1) : wpAny (model X.prog X.w) X.A (eval (.Lambda params body scope pos) X.env) Q X.xe s := by
  refine PySem.W.kla_eval hdef ?_
  obtain ⟨ps, hT, tr, hcs⟩ := T.ex
  have hP : s.heap.get? P = some (PySem.W.tabObj ps) := I.hok P _ hT
  have hg := I.ok.mod.glob.keeps I.bk
  have nG : mainGlobals ≠ P := fun z => by
    obtain ⟨o, es, ep, e, _⟩ := I.ok.mod.glob
    have := (I.bs _ _ e).2
    rw [z, hT] at this; cases this
  obtain ⟨bm, ob, b1, b2, b3, b4, b5, b6⟩ := B.ex
  have nP : bm ≠ P := fun z => by
    have := (I.bs _ _ b3).2
    rw [z, hT] at this; cases this
  have nM : bm ≠ mainGlobals := fun z => by
    obtain ⟨o, es, ep, e, hd, _⟩ := I.ok.mod.glob
    rw [z, e] at b3; cases b3; rw [hd] at b6; cases b6
  have hB : s.heap.BuiltinsAt X.mg P := ⟨bm, ob, b1, b2, nM, nP, I.bk _ _ b3, b4, b5, b6⟩
  cases hf : codeAmong pos ps.toList with
  | some cv =>
    obtain ⟨c', rfl, ne, hc'⟩ := hcs pos cv hf
    refine PySem.W.kla_makeFunctionHit (mg := X.mg) hcl I.ok.glob hg hcode (C.keeps I.bk) hP tr hf hB fun ctv h' tk hk hsz => ?_
    have k2 : ∀ b o, s.heap.get? b = some o → (h'.push (lamObj (X.env.qual ++ "<lambda>") params body scope cl ((X.mg "__name__").getD .none) c' ctv)).get? b = some o := fun b o e => Heap.get?_push_of_some _ (hk b o e)
    have hfr : H h'.objs.size = none := I.hok.fresh hsz
    exact h _ c' ctv H _ (I.kept k2) (Heap.get?_push_size _ rfl) hfr (I.notStack hsz) hc' T (SameP.refl P H)
  | none =>
    refine PySem.W.kla_makeFunction (mg := X.mg) hcl I.ok.glob hg hcode (C.keeps I.bk) hP tr hf nG hB fun c' ctv h' tk hx hge hlt hrec htb => ?_
    generalize hO : PySem.W.kla_obj "<lambda>" (X.env.qual ++ "<lambda>") params body scope cl ((X.mg "__name__").getD .none) c' ctv = O
    have k2 : ∀ b o, b ≠ P → s.heap.get? b = some o → (h'.push O).get? b = some o := fun b o n e => Heap.get?_push_of_some _ (hx b o n e)
    have hc0 : H c' = none := I.hok.fresh hge
    have nc : c' ≠ P := fun z => by rw [z, hT] at hc0; cases hc0
    have hsz : s.heap.objs.size ≤ h'.objs.size := Nat.le_of_lt (Nat.lt_of_le_of_lt hge hlt)
    have hf0 : H h'.objs.size = none := I.hok.fresh hsz
    have old : ∀ b u, b ≠ P → H b = some u → upd (upd H P (.tbl (ps ++ #[rawInt pos.line, rawInt pos.col, .ref c']))) c' (CodeE c' (X.env.qual ++ "<lambda>")) b = some u := fun b u n e => by
      rw [upd_ne (ne_of_none e hc0), upd_ne n]; exact e
    have eP : upd (upd H P (.tbl (ps ++ #[rawInt pos.line, rawInt pos.col, .ref c']))) c' (CodeE c' (X.env.qual ++ "<lambda>")) P = some (.tbl (ps ++ #[rawInt pos.line, rawInt pos.col, .ref c'])) := by
      rw [upd_ne (Ne.symm nc), upd_same]
    have J : Inv X pins σ (upd (upd H P (.tbl (ps ++ #[rawInt pos.line, rawInt pos.col, .ref c']))) c' (CodeE c' (X.env.qual ++ "<lambda>"))) { s with heap := h'.push O, toks := tk } := by
      refine I.step (g' := s.gens) (d' := s.drawn) (ch := []) (fun _ z => nomatch z) (fun b o _ _ _ e n => k2 b o (fun z => by rw [z, hT] at n; cases n) e) (fun b o _ _ _ e n => ⟨o.slots, k2 b o (fun z => by rw [z, hT] at n; cases n) e⟩) (fun b o _ e n => ?_) (fun b o _ e => ?_)
        (fun b xs e => old b _ (fun z => by rw [z, hT] at e; cases e) e) (fun b o u e => old b _ (fun z => by rw [z, hT] at e; cases e) e) (fun b qs e => ?_) (fun m hm => ?_) (fun b u e => ?_) I.bare
      · rw [upd_ne (fun z => absurd (Heap.lt_size e) (by rw [z]; exact Nat.not_lt.mpr hge)), upd_ne (fun z => by rw [z, hT] at n; cases n)]
        exact n
      · by_cases z : b = P
        · subst z; exact ⟨_, Heap.get?_push_of_some _ htb⟩
        · exact ⟨o, k2 b o z e⟩
      · by_cases z : b = P
        · subst z
          rw [hT] at e; cases e
          exact ⟨_, eP⟩
        · exact ⟨#[], by rw [old b _ z e]; simp⟩
      · obtain ⟨o, es, ep, e, r⟩ := hm
        exact ⟨o, es, ep, k2 _ o (fun z => by have n := I.free; rw [z, hT] at n; cases n) e, r⟩
      · by_cases z1 : b = c'
        · subst z1
          rw [upd_same] at e; cases e
          refine CodeE.ok ?_
          obtain ⟨c2, o, vs, t, e1, e2, r⟩ := hrec
          exact ⟨c2, o, vs, t, e1, Heap.get?_push_of_some _ e2, r⟩
        · rw [upd_ne z1] at e
          by_cases z2 : b = P
          · subst z2
            rw [upd_same] at e; cases e
            exact Heap.get?_push_of_some _ htb
          · rw [upd_ne z2] at e
            refine (I.hok b u e).stay (fun d v hd q => k2 d v ?_ q) (fun d q => old d _ (fun z => by rw [z, hT] at q; cases q) q) fun d xs q => old d _ (fun z => by rw [z, hT] at q; cases q) q
            rcases hd with z | z
            · rw [z]; exact z2
            · intro z3; rw [z3, hT] at z; cases z
    refine h _ c' ctv _ _ J (by rw [← hO]; exact Heap.get?_push_size _ rfl) ?_ (I.notStack hsz) upd_same ⟨_, eP, ?_, fun p2 cv z => ?_⟩ (fun b o n e => old b o n e)
    · rw [upd_ne (Nat.ne_of_gt hlt), upd_ne (fun z => by rw [z, hT] at hf0; cases hf0)]
      exact hf0
    · have := TriplesOk_snoc pos.line pos.col (.ref c') ps.toList tr
      simpa using this
    · have z' : codeAmong p2 (ps.toList ++ [rawInt pos.line, rawInt pos.col, .ref c']) = some cv := by simpa using z
      rcases among_snoc p2 pos (.ref c') cv ps.toList tr z' with y | y
      · obtain ⟨d, e1, e2, e3⟩ := hcs p2 cv y
        exact ⟨d, e1, e2, old d _ e2 e3⟩
      · exact ⟨c', y, nc, upd_same⟩
end
end L2
set_option Elab.async false
set_option linter.all false
set_option maxRecDepth 100000
set_option maxHeartbeats 1000000
namespace L2
open PySem PySem.Spec PyProof.Rows
def cxLam (CX : CXT) (P : Program) (w : World) (K : PySem.W.Frag) (mg : Str → Option Value) (base : Heap) (N : List Str) (qual : Str) (scope : Scope) (f : Addr) (cd : Value) (cl : List (Str × Addr)) (A : Around) (outer : List Env) (s : Shared) (H : Hp) (E : XK) : Cx where
  prog := P
  w := w
  K := K
  mg := mg
  base := base
  A := A.deeper (PySem.W.envX qual scope s.heap.objs.size f cd cl)
  N := N
  s₀ := s
  H₀ := H
  env := PySem.W.envX qual scope s.heap.objs.size f cd cl
  outer := outer
  stack := PySem.W.envX qual scope s.heap.objs.size f cd cl :: outer
  ex := []
  calm := true
  fn := fun _ => false
  pn := []
  xe := fun e s' => wpAny (model P w) (A.deeper (PySem.W.envX qual scope s.heap.objs.size f cd cl)) (leaving (PySem.W.envX qual scope s.heap.objs.size f cd cl) e) (fun _ s'' => CX outer H s E e s'') (fun e' s'' => CX outer H s E e' s'') s'
structure LamScope (sc : Scope) : Prop where
  kind : sc.kind = .function
  co : sc.isCoroutine = false
  gen : sc.isGenerator = false
  nocell : ∀ x ∈ sc.names, x.2 ≠ .cell
structure Caps (base : Heap) (N : List Str) (scope : Scope) (cl : List (Str × Addr)) (σ : St) : Prop where
  inj : ∀ x y c, cl.lookup x = some c → cl.lookup y = some c → x = y
  has : ∀ x, scope.names.lookup x = some .free → ∃ c, cl.lookup x = some c
  cell : ∀ x c, cl.lookup x = some c → ∃ v, base.IsCell c v
  val : ∀ (i : Nat) (x : Str) (v : V), N[i]? = some x → σ[i]? = some (some v) → ∃ c u, scope.names.lookup x = some .free ∧ cl.lookup x = some c ∧ base.IsCell c (some u) ∧ RelV v u
  len : σ.length = N.length
section
variable {CX : CXT} {P : Program} {w : World} {K : PySem.W.Frag} {mg : Str → Option Value} {base : Heap} {k : Nat} {f c : Addr} {qual : Str} {params : Arguments} {body : Expr} {scope : Scope} {cl : List (Str × Addr)} {pm ctv : Value} {N : List Str} {σ : St} {sp : Sp}
theorem lam_fn (ho : base.get? f = some (lamObj qual params body scope cl pm c ctv)) (S : LamScope scope) (Cp : Caps base N scope cl σ) (len : ∀ vs H Q E, sp vs H Q E → vs = []) (hcd : ∀ H Q E, sp [] H Q E → H c = some (CodeE c qual))
    (hbody : ∀ (A : Around) (outer : List Env) (s : Shared) (H : Hp) (Q : VK) (E : XK), Room k (A.deeper (PySem.W.envX qual scope s.heap.objs.size f (.ref c) cl)) → sp [] H Q E →
      ∃ t, PE (cxLam CX P w K mg base N qual scope f (.ref c) cl A outer s H E) body t ∧ t σ H Q) :
    FnOk P w K mg base CX (k + 1) f (PySem.W.kla_fn "<lambda>" qual params body scope cl pm (.ref c) ctv) [] sp := by
  refine ⟨fun vs H Q E h => by rw [len vs H Q E h]; rfl, fun A outer s H args us vs Q E hr e0 hb r hsp => ?_⟩
  obtain rfl := len _ _ _ _ hsp
  have lim : s.heap.NoLimit := e0.mod.nolimit.keeps fun b o e => (e0.bs b o e).1
  have hC := hcd H Q E hsp
  have rcd : s.heap.CodeRec (.ref c) qual := (e0.hok c _ hC).1
  refine PySem.W.kla_callFunE hr.depth (e0.bs _ _ ho).1 rfl S.co S.gen rfl rcd (hb _ _ _ _ ?_)
  refine wpAny_newFunctionEnv S.nocell (fun x hx => ?_) (fun h1 hns hsb => ?_) S.kind
  · exact absurd (show x ∈ ([] : List (Str × Value)) from hx) (by simp)
  have hk : ∀ b o, s.heap.get? b = some o → h1.get? b = some o := fun b o e => (hsb.2 b (Nat.ne_of_lt (Heap.lt_size e))).trans (Heap.get?_push_of_some _ e)
  refine ⟨lim.keeps hk, ?_⟩
  show codeAny _ _ (.expr body (PySem.W.envX qual scope s.heap.objs.size f (.ref c) cl)) _ _
  obtain ⟨t, ht, hq⟩ := hbody A outer s H Q E (hr.deeper _) hsp
  have cellH : ∀ x d v, cl.lookup x = some d → base.IsCell d v → h1.IsCell d v ∧ H d = none := fun x d v _ ⟨o, e, z⟩ => ⟨⟨o, hk _ _ (e0.bs _ _ e).1, z⟩, (e0.bs _ _ e).2⟩
  have I : Inv (cxLam CX P w K mg base N qual scope f (.ref c) cl A outer s H E) [] σ H { s with heap := h1, toks := s.toks + (([] : List Str).zip us).length } := by
    have noA : ∀ b : Addr, b ∉ (cxLam CX P w K mg base N qual scope f (.ref c) cl A outer s H E).ex := fun b z => absurd (show b ∈ ([] : List Addr) from z) (by simp)
    refine ⟨⟨e0.mod, S.kind, rfl, rfl, Nat.le_refl _, Cp.inj, fun y hy => ?_, fun y d z _ => ?_, fun _ => hr.hd, Around.frames_deeper e0.frames, .inr ⟨rfl, rfl⟩, fun b z => absurd z (noA b), e0.bs, e0.bsz, fun b _ _ => noA b, fun b z => absurd z (noA b), e0.funs, e0.frf⟩,
      rfl, e0.bare, Un.kept hk, ⟨_, hns, fun i y v h1 h2 h3 => ?_⟩, fun y d h => ?_, e0.hok.fresh (Nat.le_refl _), fun y d h => ?_, fun p hp => absurd (show p ∈ ([] : List (Addr × Obj)) from hp) (by simp), e0.hok.kept hk, Cp.len⟩
    · have hy : scope.names.lookup y = some .cell ∨ scope.names.lookup y = some .free := hy
      rcases hy with hy | hy
      · exact absurd rfl (S.nocell _ (PySem.mem_of_lookup hy))
      · exact Cp.has y hy
    · exact absurd (show false = true from z) (by decide)
    · obtain ⟨d, u, k1, k2, k3, k4⟩ := Cp.val i y v h1 h2
      exact ⟨u, k4, .inr ⟨.inr k1, d, k2, (cellH y d _ k2 k3).1⟩⟩
    · obtain ⟨v, z⟩ := Cp.cell y d h
      exact ⟨v, (cellH y d _ h z).1⟩
    · obtain ⟨v, z⟩ := Cp.cell y d h
      exact (cellH y d _ h z).2
  refine PySem.W.kla_codeExpr (wpAny_mono (ht [] _ σ H Q I hq) (fun u s' hs => ?_) fun e s' hs => hs)
  obtain ⟨v, H', J, rv, q⟩ := hs
  exact ⟨v, H', J.os, J.bare, J.base, J.hok, rv, q⟩
end
theorem passL {P : Program} {w : World} {K : PySem.W.Frag} {mg : Str → Option Value} {base : Heap} {N : List Str} {qual : Str} {scope : Scope} {f : Addr} {cd : Value} {cl : List (Str × Addr)} {A : Around} {outer : List Env} {s : Shared} {H : Hp} {E : XK} :
    Passes (CXE P w) (cxLam (CXE P w) P w K mg base N qual scope f cd cl A outer s H E) E := by
  intro pins σ H1 s1 e s2 I h
  obtain ⟨ea, C, dx, tb, H0, H2, rfl, os, bare, un, hok, e1, ht, sx, n0, q⟩ := h
  have J : Inv (cxLam (CXE P w) P w K mg base N qual scope f cd cl A outer s H E) pins σ H2 s2 := I.call' (ch := []) os un hok bare fun b z => absurd z (by simp)
  refine leave_ok (X := cxLam (CXE P w) P w K mg base N qual scope f cd cl A outer s H E) rfl rfl J e1 ht fun s3 T H3 J3 e3 eT sx3 => ?_
  exact ⟨ea, C, dx, .ref T, H0, H3, rfl, J3.os, J3.bare, J3.base, J3.hok, e3, .inr ⟨T, rfl, eT⟩, fun b o hb z => sx3 b o hb (sx b o hb z), n0, q⟩
end L2
set_option Elab.async false
set_option linter.all false
set_option maxRecDepth 100000
set_option maxHeartbeats 1000000
namespace L2
open PySem PySem.Spec PyProof.Rows
def lcl (env : Env) : List (Str × NameKind) → List (Str × Addr) → List (Str × Addr)
  | [], acc => acc
  | (x, k) :: r, acc => if (k == .free) = true then lcl env r ((x, (env.cells.lookup x).getD 0) :: acc) else lcl env r acc
theorem forIn_cl {env : Env} {f : Str × NameKind → List (Str × Addr) → Sem (ForInStep (List (Str × Addr)))} (hf : ∀ x k cs, f (x, k) cs = if (k == .free) = true then (do let c ← cellOf env x; pure (.yield ((x, c) :: cs))) else pure (.yield cs)) :
    ∀ (names : List (Str × NameKind)) (acc : List (Str × Addr)), (∀ y ∈ names, y.2 = .free → ∃ c, env.cells.lookup y.1 = some c) → forIn names acc f = pure (lcl env names acc)
  | [], acc, _ => by simp [lcl]
  | (x, k) :: r, acc, h => by
    rw [List.forIn_cons, hf]
    unfold lcl
    by_cases hk : (k == .free) = true
    · obtain ⟨c, e⟩ := h (x, k) (.head _) (eq_of_beq hk)
      have e : env.cells.lookup x = some c := e
      have e2 : cellOf env x = pure c := by unfold cellOf; rw [e]
      rw [if_pos hk, if_pos hk, e2, pure_bind, pure_bind, e]
      exact forIn_cl hf r _ fun y hy => h y (.tail _ hy)
    · rw [if_neg hk, if_neg hk, pure_bind]
      exact forIn_cl hf r _ fun y hy => h y (.tail _ hy)
theorem closure_eq {scope : Scope} {env : Env} (h : ∀ y ∈ scope.names, y.2 = .free → ∃ c, env.cells.lookup y.1 = some c) : closureFor scope env = pure (lcl env scope.names []) := by
  have e := forIn_cl (env := env) (f := fun x cs => if (x.2 == .free) = true then (do let c ← cellOf env x.1; pure (.yield ((x.1, c) :: cs))) else pure (.yield cs)) (fun _ _ _ => rfl) scope.names [] h
  show (forIn scope.names [] _ >>= fun cs => pure cs) = _
  rw [bind_pure]
  exact e
theorem lcl_sound {env : Env} : ∀ (names : List (Str × NameKind)) (acc : List (Str × Addr)), (∀ y ∈ names, y.2 = .free → ∃ c, env.cells.lookup y.1 = some c) → (∀ x c, acc.lookup x = some c → env.cells.lookup x = some c) →
    ∀ x c, (lcl env names acc).lookup x = some c → env.cells.lookup x = some c
  | [], acc, _, ha => ha
  | (x, k) :: r, acc, h, ha => by
    unfold lcl
    by_cases hk : (k == .free) = true
    · rw [if_pos hk]
      obtain ⟨c, e⟩ := h (x, k) (.head _) (eq_of_beq hk)
      have e : env.cells.lookup x = some c := e
      refine lcl_sound r _ (fun y hy => h y (.tail _ hy)) fun y d q => ?_
      rw [List.lookup_cons] at q
      split at q
      · rename_i z
        rw [eq_of_beq z, e]
        rw [e] at q
        exact q
      · exact ha y d q
    · rw [if_neg hk]
      exact lcl_sound r _ (fun y hy => h y (.tail _ hy)) ha
theorem lcl_acc {env : Env} {x : Str} : ∀ (names : List (Str × NameKind)) (acc : List (Str × Addr)), (acc.lookup x).isSome = true → ((lcl env names acc).lookup x).isSome = true
  | [], acc, h => h
  | (y, k) :: r, acc, h => by
    unfold lcl
    split
    · refine lcl_acc r _ ?_
      rw [List.lookup_cons]
      split
      · rfl
      · exact h
    · exact lcl_acc r _ h
theorem lcl_has {env : Env} {x : Str} : ∀ (names : List (Str × NameKind)) (acc : List (Str × Addr)), (x, NameKind.free) ∈ names → ((lcl env names acc).lookup x).isSome = true
  | (y, k) :: r, acc, h => by
    unfold lcl
    rcases List.mem_cons.mp h with e | e
    · cases e
      rw [if_pos (show (NameKind.free == NameKind.free) = true by decide)]
      refine lcl_acc r _ ?_
      rw [List.lookup_cons, beq_self_eq_true]
      rfl
    · split
      · exact lcl_has r _ e
      · exact lcl_has r _ e
def capt (fm : List Nat) (σ : St) : St := fm.map fun j => σ.getD j none
theorem caps_of {X : Cx} {pins : List (Addr × Obj)} {σ : St} {H : Hp} {s : Shared} {N : List Str} {scope : Scope} {fm : List Nat} (I : Inv X pins σ H s) (hfn : ∀ x, X.fn x = true) (hfr : ∀ y ∈ scope.names, y.2 = .free → X.env.kindOf y.1 = some .cell) (hfm : fm.length = N.length)
    (hN : ∀ (i : Nat) (x : Str), N[i]? = some x → scope.names.lookup x = some .free ∧ ∃ j, fm[i]? = some j ∧ X.N[j]? = some x) : Caps (bigB s.heap H X.stack) N scope (lcl X.env scope.names []) (capt fm σ) := by
  have hc : ∀ y ∈ scope.names, y.2 = .free → ∃ c, X.env.cells.lookup y.1 = some c := fun y hy hk => I.ok.has y.1 (.inl (hfr y hy hk))
  have sound : ∀ x c, (lcl X.env scope.names []).lookup x = some c → X.env.cells.lookup x = some c := lcl_sound scope.names [] hc fun x c e => by cases e
  have cellB : ∀ x c v, X.env.cells.lookup x = some c → s.heap.IsCell c v → (bigB s.heap H X.stack).IsCell c v := fun x c v e ⟨o, ho, hd⟩ => by
    refine ⟨o, bigB_get ho (I.freeC x c e) fun hm => ?_, hd⟩
    rcases List.mem_cons.mp (I.stkSub c hm) with z | z
    · exact I.cne x c e z
    · obtain ⟨_, o2, ho2, _⟩ := I.ok.funs.mem z
      exact absurd (Nat.lt_of_lt_of_le (Heap.lt_size ho2) (I.ok.cab x c (hfn x) e)) (Nat.lt_irrefl _)
  refine ⟨fun x y c h1 h2 => I.ok.inj x y c (sound x c h1) (sound y c h2), fun x hx => ?_, fun x c e => ?_, fun i x v h1 h2 => ?_, by unfold capt; rw [List.length_map]; exact hfm⟩
  · exact Option.isSome_iff_exists.mp (lcl_has scope.names [] (PySem.mem_of_lookup hx))
  · obtain ⟨v, z⟩ := I.cell x c (sound x c e)
    exact ⟨v, cellB x c v (sound x c e) z⟩
  · obtain ⟨fr, j, e1, e2⟩ := hN i x h1
    have e3 : σ[j]? = some (some v) := by
      unfold capt at h2
      rw [List.getElem?_map, e1] at h2
      have h2 : some (σ.getD j none) = some (some v) := h2
      have h3 := Option.some.inj h2
      rw [List.getD_eq_getElem?_getD] at h3
      cases q : σ[j]? with
      | none => rw [q] at h3; cases h3
      | some a => rw [q] at h3; exact congrArg some h3
    obtain ⟨c, e4⟩ := Option.isSome_iff_exists.mp (lcl_has (env := X.env) scope.names [] (PySem.mem_of_lookup fr))
    have e5 := sound x c e4
    have kd : X.env.kindOf x = some .cell := hfr (x, .free) (PySem.mem_of_lookup fr) rfl
    obtain ⟨m, hn, hl⟩ := I.loc
    obtain ⟨u, r, l⟩ := hl j x v e2 e3 (.inr (.inl kd))
    refine ⟨c, u, fr, e4, cellB x c _ e5 ?_, r⟩
    rcases l with ⟨k, _⟩ | ⟨_, c2, k2, z⟩
    · rw [kd] at k; cases k
    · rw [e5] at k2; cases k2; exact z
end L2
set_option Elab.async false
set_option linter.all false
set_option maxRecDepth 100000
set_option maxHeartbeats 1000000
namespace L2
open PySem PySem.Spec PyProof.Rows
section
variable {X : Cx} {CX : CXT} {k : Nat} {f : Addr} {fd : FuncData} {ps : List Str} {sp : Sp} {E : XK} {x : Str} {p pos : Pos}
theorem run_big {pins : List (Addr × Obj)} {σ : St} {H : Hp} {s : Shared} {Q : VK} {us : List Value} {vs : List V} (F : FnOk X.prog X.w X.K X.mg (bigB s.heap H X.stack) CX k f fd ps sp) (hr : Room k X.A) (hb : Binds X.K fd ps []) (hx : Passes CX X E)
    (I : Inv X pins σ H s) (r : Vals vs us) (h : sp vs H Q E) : wpAny (model X.prog X.w) X.A (call (.ref f) us) (EP X pins σ Q) X.xe s := by
  have hl : (us ++ []).length = ps.length := by rw [List.append_nil, ← r.length]; exact F.len _ _ _ _ h
  have hbt := hb s us I.kIn hl
  rw [List.append_nil] at hbt
  refine wpAny_call (codeAny_mono (F.run X.A X.stack s H ⟨us, []⟩ us vs Q E hr I.env0.big hbt r h) fun r s' hq => ?_)
  cases r with
  | error e => exact hx pins σ H s e s' I hq
  | ok fl =>
    cases fl with
    | ret u => exact I.after hq
    | next => exact False.elim hq
    | brk => exact False.elim hq
    | cont => exact False.elim hq
def tCallV (i : Nat) (f : Addr) (sp : Sp) (E : XK) : TE := fun σ H Q => σ[i]? = some (some (.ref f)) ∧ sp [] H Q E
theorem pe_callL {i : Nat} (G : FnOk X.prog X.w X.K X.mg X.base CX k f fd [] sp) (hr : Room k X.A) (ho : X.base.get? f = some { cls := .type "function", data := .func fd }) (hb : Binds X.K fd [] []) (hx : Passes CX X E) (hN : X.N[i]? = some x) (hv : Vis X.env.scope x)
    (hd : (x == ("__debug__" : Str)) = false := by decide) (hcd : (x == ("__classdict__" : Str)) = false := by decide) : PE X (.Call (.Name x p) [] [] pos) (tCallV i f sp E) := by
  intro pins s σ H Q I h
  obtain ⟨e, h⟩ := h
  refine wpAny_Call_Name_kw (thn (pe_var hN hv hd hcd pins s σ H (fun v H' => v = .ref f ∧ H' = H) I ⟨_, e, rfl, rfl⟩) fun u s1 ⟨v, H1, I1, r, ev, eH⟩ => ?_)
  subst ev eH
  obtain rfl : u = Value.ref f := r
  refine PySem.W.callWith_of (P := fun h => h.get? f = some { cls := .type "function", data := .func fd }) rfl (fun h q => ⟨.frame, .inl rfl, (PySem.W.Looks.ld (part := none) q).andThen .now⟩) (evalArgs_nil3 ⟨I1.bk _ _ ho, ?_⟩)
  exact run_fn (us := []) (vs := []) (dvs := []) G hr hb .nil hx I1 .nil h
def wordE (K : PySem.W.Frag) (W : Addr) (Q : VK) : XK := fun C d H0 => ∃ (Ca dx : Addr) (ww : Str), C = .ref Ca ∧ d = some dx ∧ H0 dx = some (.xd [("word", .str ww)]) ∧ XSub K Ca W ∧ XKl K Ca ∧ ∀ H' r, Same H0 H' → H' r = none → Q (.ref r) (upd H' r (.tup [.str ww]))
def toldQ (Q : VK) : VK := fun v H2 => [V.str "told", v].length ≤ sizeLine ∧ ∀ r, H2 r = none → Q (.ref r) (upd H2 r (.tup [.str "told", v]))
theorem toldQ.mk {Q : VK} {v : V} {H2 : Hp} (h : ∀ r, H2 r = none → Q (.ref r) (upd H2 r (.tup [.str "told", v]))) : toldQ Q v H2 := ⟨Nat.le_trans (show 2 ≤ 100 by decide) (by decide), h⟩
def spWord (K : PySem.W.Frag) (W f : Addr) (spl : Sp) : Sp := fun vs H Q _ => vs = [.ref f] ∧ spl [] H (toldQ Q) (wordE K W Q)
def tWord (K : PySem.W.Frag) (W P : Addr) (q : Str) (fm : List Nat) (t : XK → TE) : TE := fun σ H Q => TabOk H P q ∧ ∀ H1, TabOk H1 P q → SameP P H H1 → t (wordE K W Q) (capt fm σ) H1 (toldQ Q)
theorem pe_word {st : Stmt} {y : Str} {fw W c P : Addr} {fdw : FuncData} {kl kw : Nat} {params : Arguments} {body : Expr} {scope : Scope} {lpos : Pos} {N : List Str} {fm : List Nat} {t : XK → TE} (Dw : Df X.K X.mg x st [y] fw fdw)
    (Gw : ∀ (base : Heap) (f : Addr) (fdl : FuncData) (spl : Sp), base.get? f = some { cls := .type "function", data := .func fdl } → Binds X.K fdl [] [] → FnOk X.prog X.w X.K X.mg base (CXE X.prog X.w) (kl + 1) f fdl [] spl →
      FnOk X.prog X.w X.K X.mg base (CXE X.prog X.w) kw fw fdw [y] (spWord X.K W f spl))
    (hr : Room kw X.A) (hcode : X.env.code = .ref c) (C : PySem.W.CodeHd X.base c P) (B : BMain X.mg X.base) (hfn : ∀ x, X.fn x = true)
    (S : LamScope scope) (hfr : ∀ y ∈ scope.names, y.2 = .free → X.env.kindOf y.1 = some .cell) (hfm : fm.length = N.length) (hN : ∀ (i : Nat) (x : Str), N[i]? = some x → scope.names.lookup x = some .free ∧ ∃ j, fm[i]? = some j ∧ X.N[j]? = some x)
    (hbl : ∀ (base : Heap) (f c' : Addr) (A : Around) (outer : List Env) (s : Shared) (H : Hp) (E : XK), Room kl (A.deeper (PySem.W.envX (X.env.qual ++ "<lambda>") scope s.heap.objs.size f (.ref c') (lcl X.env scope.names []))) →
      PE (cxLam (CXE X.prog X.w) X.prog X.w X.K X.mg base N (X.env.qual ++ "<lambda>") scope f (.ref c') (lcl X.env scope.names []) A outer s H E) body (t E))
    (hx : Passes (CXE X.prog X.w) X E0) (hg : Gl X x := by rfl) (hdef : defaultsOf params X.env = ([], []) := by rfl)
    (hbind : ∀ (q : Str) (cl : List (Str × Addr)) (pm ctv : Value) (c' : Addr), bindArgs (PySem.W.kla_fn "<lambda>" q params body scope cl pm (.ref c') ctv) ⟨[], []⟩ = pure [] := by intro _ _ _ _ _; rfl)
    (hdb : (x == ("__debug__" : Str)) = false := by decide) : PE X (.Call (.Name x p) [.Lambda params body scope lpos] [] pos) (tWord X.K W P (X.env.qual ++ "<lambda>") fm t) := by
  intro pins s σ H Q I h
  obtain ⟨T, h⟩ := h
  have hc : ∀ y ∈ scope.names, y.2 = .free → ∃ c, X.env.cells.lookup y.1 = some c := fun y hy hk => I.ok.has y.1 (.inl (hfr y hy hk))
  refine wpAny_Call_Name_kw (ld_glob I hg Dw.mg ?_ hdb)
  refine PySem.W.callWith_K (h₀ := X.base) I.ok.mod.kin Dw.F.kp ?_ (by rfl) (by rfl)
  show wpAny _ _ (spliced ((false, eval (.Lambda params body scope lpos) X.env) :: backTo pos (starEach [] X.env))) _ _ s
  refine Calls.spliced_cons (lam_make I hdef (closure_eq hc) hcode C B T fun f c' ctv H1 s1 I1 ho nf nfr hC T1 sp1 => ?_)
  refine Calls.spliced_nil ⟨I1.kIn, ?_⟩
  have hob : (bigB s1.heap H1 X.stack).get? f = some (lamObj (X.env.qual ++ "<lambda>") params body scope (lcl X.env scope.names []) ((X.mg "__name__").getD .none) c' ctv) := bigB_get ho nf nfr
  have hbl' : Binds X.K (PySem.W.kla_fn "<lambda>" (X.env.qual ++ "<lambda>") params body scope (lcl X.env scope.names []) ((X.mg "__name__").getD .none) (.ref c') ctv) [] [] := .all fun us hl => by
    obtain rfl := List.eq_nil_of_length_eq_zero hl
    exact hbind _ _ _ _ _
  have L := lam_fn (CX := CXE X.prog X.w) (P := X.prog) (w := X.w) (K := X.K) (mg := X.mg) (k := kl) (sp := fun vs H Q E => vs = [] ∧ H c' = some (CodeE c' (X.env.qual ++ "<lambda>")) ∧ t E (capt fm σ) H Q) hob S (caps_of I1 hfn hfr hfm hN) (fun _ _ _ _ z => z.1) (fun _ _ _ z => z.2.1)
    fun A outer s H Q E hr z => ⟨t E, hbl _ f c' A outer s H E hr, z.2.2⟩
  exact run_big (E := E0) (Gw _ f _ _ hob hbl' L) hr Dw.b hx I1 (vs := [.ref f]) (.cons rfl .nil) ⟨rfl, rfl, hC, h H1 T1 sp1⟩
end
end L2
set_option Elab.async false
set_option linter.all false
set_option maxRecDepth 100000
set_option maxHeartbeats 1000000
namespace L2
open PySem PySem.Spec PyProof.Rows
theorem law_callT {P : Program} {w : World} {K : PySem.W.Frag} {mg mb : Str → Option Value} {CX : CXT} {k : Nat} {fa a : Addr} {fd : FuncData} {x : Str} {sp : Sp} {s₁ : Shared} {vs : List Value} {ns : List Int} {ts : List Addr}
    (KX : K.In s₁.heap) (hns : s₁.heap.Ns mainGlobals mg) (hb : s₁.heap.Ns builtinsNs mb) (hbb : ∀ x : Str, x ≠ "__name__" → mb x = bootBuiltins x) (hlim : s₁.heap.NoLimit) (hg : s₁.gens = #[])
    (ha : s₁.heap.get? a = some { cls := .type "list", data := .seq vs.toArray }) (hi : IntsAre vs ns) (hl : ns.length ≤ sizeLine) (hr : Room k callerA)
    (hT : ∀ P ∈ ts, s₁.heap.get? P = some (PySem.W.tabObj #[])) (hKT : ∀ P ∈ ts, K.lookup P = none) (hct : ∀ P ∈ ts, isCodeTable s₁.heap P) (BM : BMain mg s₁.heap)
    (F : ∀ base : Heap, K.In base → base.Ns mainGlobals mg → BMain mg base → FnOk P w K mg base CX k fa fd [x] sp) (hbind : ∀ (s : Shared) (u : Value), BindsTo s fd ⟨[u], []⟩ [(x, u)])
    (hsp : ∀ H : Hp, SqL K H a (ns.map V.int) → (∀ P ∈ ts, H P = some (.tbl #[])) → sp [.ref a] H (fun v _ => v = .bl true) fun _ _ _ => False)
    (hCX : ∀ H e s', CX [] H s₁ (fun _ _ _ => False) e s' → False) :
    codeAny (model P w) callerA (.call (.ref fa) ⟨[.ref a], []⟩) (fun r s' => r = .ok (.ret (.bool true)) ∧ OldK s₁.heap s'.heap ∧ s'.os = s₁.os ∧ AllBare s'.gens) s₁ := by
  have rv := vals_ints hi
  have lenV := hi.length
  have naT : a ∉ ts := fun z => by
    have := hT a z
    rw [ha] at this
    cases this
  have core : ∀ H : Hp, (∀ b, H b = none ∨ (b = a ∧ K.lookup a = none ∧ ∃ xs, H b = some (.frz { cls := .type "list", data := .seq vs.toArray } (.lst xs))) ∨ (b ∈ ts ∧ H b = some (.tbl #[]))) → SqL K H a (ns.map V.int) → (∀ P ∈ ts, H P = some (.tbl #[])) → HOk P w H s₁.heap →
      codeAny (model P w) callerA (.call (.ref fa) ⟨[.ref a], []⟩) (fun r s' => r = .ok (.ret (.bool true)) ∧ OldK s₁.heap s'.heap ∧ s'.os = s₁.os ∧ AllBare s'.gens) s₁ := by
    intro H hO hS hTs hok
    have base_of : ∀ {b : Addr} {o : Obj}, s₁.heap.get? b = some o → H b = none → (hidT s₁.heap H).get? b = some o := fun e n => hidT_get e n
    have noT : ∀ {b : Addr} {o : Obj}, s₁.heap.get? b = some o → (∀ n, o.data ≠ .seq vs.toArray n) → (∀ xs, o.data ≠ .fields xs) → H b = none := fun {b o} e d1 d2 => by
      rcases hO b with z | ⟨rfl, _, _, z⟩ | ⟨z, _⟩
      · exact z
      · rw [ha] at e; cases e
        exact absurd rfl (d1 _)
      · rw [hT b z] at e; cases e
        exact absurd rfl (d2 _)
    have nsK : ∀ {b : Addr} {m : Str → Option Value}, s₁.heap.Ns b m → (hidT s₁.heap H).Ns b m := fun {b m} ⟨o, es, ep, e, d, r⟩ => ⟨o, es, ep, base_of e (noT e (fun n z => by rw [d] at z; cases z) (fun xs z => by rw [d] at z; cases z)), d, r⟩
    have hKb : K.In (hidT s₁.heap H) := fun b o e => base_of (KX b o e) (by
      rcases hO b with z | ⟨rfl, z, _⟩ | ⟨z, _⟩
      · exact z
      · rw [z] at e; cases e
      · rw [hKT b z] at e; cases e)
    have hM : Mod K mg (hidT s₁.heap H) := ⟨hKb, nsK hns, ⟨mb, nsK hb, hbb⟩, let ⟨mc, h1, h2⟩ := hlim; ⟨mc, nsK h1, h2⟩⟩
    have hBM : BMain mg (hidT s₁.heap H) := by
      obtain ⟨bm, ob, e1, e2, e3, e4, e5, e6⟩ := BM.ex
      exact ⟨bm, ob, e1, e2, base_of e3 (noT e3 (fun n z => by rw [e6] at z; cases z) (fun xs z => by rw [e6] at z; cases z)), e4, e5, e6⟩
    have e0 : Env0 P w K mg (hidT s₁.heap H) callerA [] s₁ H := ⟨rfl, hM, fun b o e => of_hidT e, Nat.le_of_eq (hidT_size _ _), trivial, fun b hb => absurd (show b ∈ ([] : List Addr) from hb) (by simp), hok, .of_eq hg⟩
    refine codeAny_mono ((F _ hKb (nsK hns) hBM).run callerA [] s₁ H ⟨[.ref a], []⟩ [.ref a] [.ref a] _ _ hr e0 (hbind s₁ (.ref a)) (.cons rfl .nil) (hsp H hS hTs)) fun r s' h => ?_
    cases r with
    | error e => exact (hCX H e s' h).elim
    | ok fl =>
      cases fl with
      | next => exact False.elim h
      | brk => exact False.elim h
      | cont => exact False.elim h
      | ret u =>
        obtain ⟨v, H', os, bare, un, hok', r', q⟩ := h
        have q' : v = .bl true := q
        subst q'
        obtain rfl : u = Value.bool true := r'
        refine ⟨rfl, ⟨fun b o e => ?_, fun b o e => un.there b o e (by simp)⟩, os, bare⟩
        rcases hO b with z | ⟨rfl, _, xs, z⟩ | ⟨zt, z⟩
        · exact .inl (un.keep b o e z (by intro z; exact absurd (show b ∈ ([] : List Addr) from z) (by simp)) (by simp))
        · have z2 := un.frzs b _ _ z
          obtain ⟨e1, _⟩ := hok b _ z
          obtain ⟨e2, _⟩ := hok' b _ z2
          rw [e] at e1; cases e1
          exact .inl e2
        · obtain ⟨more, z2⟩ := un.tbls b _ z
          have e1 := hok' b _ z2
          rw [hT b zt] at e; cases e
          exact .inr (.inl ⟨hct b zt, rfl, #[], more, rfl, e1⟩)
  have okT : ∀ (H : Hp) (b : Addr), b ∈ ts → ObjOk P w H s₁.heap b (.tbl #[]) := fun H b hb => hT b hb
  cases hk : K.lookup a with
  | some o =>
    have e := KX a o hk
    rw [ha] at e
    cases e
    refine core (fun b => if b ∈ ts then some (.tbl #[]) else none) (fun b => ?_) (.inr ⟨_, vs.toArray, _, hk, rfl, rfl, rfl, by rw [List.size_toArray, lenV]; exact hl, by simpa using rv⟩) (fun b hb => if_pos hb) (fun b u z => ?_)
    · by_cases hb : b ∈ ts
      · exact .inr (.inr ⟨hb, if_pos hb⟩)
      · exact .inl (if_neg hb)
    · by_cases hb : b ∈ ts
      · have z' := (if_pos hb).symm.trans z
        cases z'
        exact okT _ b hb
      · have z' := (if_neg hb).symm.trans z
        cases z'
  | none =>
    refine core (fun b => if b ∈ ts then some (.tbl #[]) else if b = a then some (.frz { cls := .type "list", data := .seq vs.toArray } (.lst (ns.map V.int))) else none) (fun b => ?_) (.inl (.inr ⟨{ cls := .type "list", data := .seq vs.toArray }, ?_⟩)) (fun b hb => if_pos hb) (fun b u z => ?_)
    · by_cases hb : b ∈ ts
      · exact .inr (.inr ⟨hb, if_pos hb⟩)
      · by_cases hb2 : b = a
        · exact .inr (.inl ⟨hb2, hk, _, (if_neg hb).trans (if_pos hb2)⟩)
        · exact .inl ((if_neg hb).trans (if_neg hb2))
    · exact (if_neg naT).trans (if_pos rfl)
    · by_cases hb : b ∈ ts
      · have z' := (if_pos hb).symm.trans z
        cases z'
        exact okT _ b hb
      · have z := (if_neg hb).symm.trans z
        by_cases hb2 : b = a
        · have z' := (if_pos hb2).symm.trans z
          cases z'
          subst hb2
          exact ⟨ha, by rw [List.length_map]; exact hl, vs, _, rv, ha⟩
        · have z' := (if_neg hb2).symm.trans z
          cases z'
theorem walk_ofT {l : PySem.W.OpenLaw} {n k : Nat} {q : Program} {loose : List Str} {XP : (Str → Option Value) → Heap → Prop} {YP : World → Heap → Prop} {d : DefRec} {K : Params → PySem.W.Frag} {CX : World → CXT} {sp : World → Sp} {x : Str} {tabs : List (Addr × Addr)}
    (hn : l.most = some n) (hn2 : n ≤ sizeLine) (hdf : d.params.defaults = []) (hr : Room k callerA)
    (hY : ∀ (w : World) (h : Heap), YP w h → (K w.params).In h) (hT : ∀ (w : World) (h : Heap), YP w h → ∀ q ∈ tabs, h.get? q.2 = some (PySem.W.tabObj #[]))
    (hC : ∀ (w : World) (h : Heap), (K w.params).In h → ∀ q ∈ tabs, PySem.W.CodeHd h q.1 q.2) (hK : ∀ (w : World), ∀ q ∈ tabs, (K w.params).lookup q.2 = none)
    (F : ∀ (w : World) (mg : Str → Option Value) (fa : Addr) (h : Heap), (K w.params).In h → h.Ns mainGlobals mg → mg d.name = some (.ref fa) →
      ∃ fd : FuncData, (∀ (s : Shared) (u : Value), BindsTo s fd ⟨[u], []⟩ [(x, u)]) ∧
        ∀ base : Heap, (K w.params).In base → base.Ns mainGlobals mg → BMain mg base → FnOk l.prog w (K w.params) mg base (CX w) k fa fd [x] (sp w))
    (hsp : ∀ (w : World) (H : Hp) (a : Addr) (ns : List Int), ns.length ≤ n → SqL (K w.params) H a (ns.map V.int) → (∀ q ∈ tabs, H q.2 = some (.tbl #[])) → sp w [.ref a] H (fun v _ => v = .bl true) fun _ _ _ => False)
    (hCX : ∀ (w : World) (H : Hp) (s : Shared) (e : Value) (s' : Shared), CX w [] H s (fun _ _ _ => False) e s' → False) :
    PySem.W.WalkO q loose XP YP l.row.toRowW d [] (fun f vs => PySem.call f vs) := by
  refine Att.attach_call hn hdf fun w s₀ s₁ mg mb fa o pm cd doc a vs ns G Y ho hd hcd hmg hobj hints hlen hg => ?_
  have KX := hY w _ Y
  obtain ⟨fd, hb, hF⟩ := F w mg fa _ KX G.T.g hmg
  have tb : ∀ P ∈ tabs.map (·.2), ∃ c, (c, P) ∈ tabs := fun P hP => by
    obtain ⟨⟨c, P'⟩, hq, rfl⟩ := List.mem_map.mp hP
    exact ⟨c, hq⟩
  refine law_callT (ts := tabs.map (·.2)) KX G.T.g G.T.b G.T.builtins G.T.nolimit hg hobj hints (Nat.le_trans hlen hn2) hr (fun P hP => ?_) (fun P hP => ?_) (fun P hP => ?_) ⟨G.T.bmain⟩ hF hb (fun H hS hTs => hsp w H a ns hlen hS fun q hq => hTs q.2 (List.mem_map_of_mem hq)) fun H e s' => hCX w H s₁ e s'
  · obtain ⟨c, hq⟩ := tb P hP; exact hT w _ Y _ hq
  · obtain ⟨c, hq⟩ := tb P hP; exact hK w _ hq
  · obtain ⟨c, hq⟩ := tb P hP
    exact ((hC w _ KX _ hq).tab (hT w _ Y _ hq)).isCodeTable
end L2
set_option Elab.async false
set_option linter.all false
set_option maxRecDepth 100000
set_option maxHeartbeats 1000000
namespace L2
open PySem PySem.Spec PyProof.Rows
theorem all_tx (y : Str) : y = tx y.length fun i => y.cps.getD i 0 := by
  obtain ⟨a⟩ := y
  unfold tx
  congr 1
  apply Array.ext
  · simp [Str.length]
  · intro i h1 h2
    simp
    rw [Array.getElem?_eq_getElem h1]
    rfl
section
variable {X : Cx}
theorem op_le_str : OpR X (compareOp .LtE) (fun x y H Q => ∃ i j, x = .str i ∧ y = .str j ∧ Q (.bl (!(decide (j.cps.toList < i.cps.toList)))) H) := by
  intro pins s σ H x y v u Q I rx ry h
  obtain ⟨i, j, rfl, rfl, q⟩ := h
  obtain ⟨t, rfl⟩ := rx
  obtain ⟨t', rfl⟩ := ry
  exact PySem.P.le_str (fin_bl I q rfl)
def rSlS : V → Option Int → Option Int → Hp → VK → Prop := fun x lo hi H Q => ∃ z, x = .str z ∧ z.length ≤ sizeLine ∧ ∀ y : Str, y.length ≤ z.length → Q (.str y) H
theorem sl_str : SlR X rSlS := by
  intro pins s σ H x v vl vu lo hi sl Q I rx hs pl pu h
  obtain ⟨z, rfl, hz, q⟩ := h
  obtain ⟨t, rfl⟩ := rx
  have fin : ∀ (y : Str) (t' k : Nat), y.length ≤ z.length → EP X pins σ Q (.str y t') { s with toks := k } := fun y t' k hy => ⟨.str y, H, I.tok k, ⟨t', rfl⟩, q y hy⟩
  refine ⟨"str", _, slot_str_getitem.lookup, typeIs_str _ _ _, ?_⟩
  cases pl with
  | none =>
    cases pu with
    | none => exact wpAny_getItem_str_slice (l := none) (u := none) (st := none) hs rfl (post_val_or_str ⟨Nat.le_trans (Txt.slice_le z _ _) hz, fun t' k => fin _ _ _ (Txt.slice_le z _ _)⟩)
    | int j uj => exact wpAny_getItem_str_slice (l := none) (u := some (j, uj)) (st := none) hs rfl (post_val_or_str ⟨Nat.le_trans (Txt.slice_le z _ _) hz, fun t' k => fin _ _ _ (Txt.slice_le z _ _)⟩)
  | int i ui =>
    cases pu with
    | none => exact wpAny_getItem_str_slice (l := some (i, ui)) (u := none) (st := none) hs rfl (post_val_or_str ⟨Nat.le_trans (Txt.slice_le z _ _) hz, fun t' k => fin _ _ _ (Txt.slice_le z _ _)⟩)
    | int j uj => exact wpAny_getItem_str_slice (l := some (i, ui)) (u := some (j, uj)) (st := none) hs rfl (post_val_or_str ⟨Nat.le_trans (Txt.slice_le z _ _) hz, fun t' k => fin _ _ _ (Txt.slice_le z _ _)⟩)
end
theorem in_one (x : Str) (c : Nat) : (!(Builtin.Str.occurrences x ⟨#[c]⟩ 0 x.length 1).isEmpty) = decide (c ∈ x.cps.toList) := PySem.StrLaws.found_one x c
theorem lt_one (c d : Nat) : decide (([c] : List Nat) < [d]) = decide (c < d) := by
  refine decide_eq_decide.mpr ⟨fun h => ?_, fun h => ?_⟩
  · cases h with
    | rel h => exact h
    | cons h => cases h
  · exact .rel h
end L2
set_option Elab.async false
set_option linter.all false
set_option maxRecDepth 100000
set_option maxHeartbeats 4000000
namespace K01
open PySem L2
def top (i : Nat) : Stmt := PySem.Challenge.pw_wapentake_k01_answers_rows_and_names.main.body.getD i (.Pass ⟨0, 0, 0, 0⟩)
abbrev s_cell : Stmt := top 18
abbrev s_draws : Stmt := top 19
structure Bt (mg : Str → Option Value) : Prop where
  len : mg "len" = none
  range : mg "range" = none
  all : mg "all" = none
  zip : mg "zip" = none
  abs : mg "abs" = none
  int : mg "int" = none
  str : mg "str" = none
  bool : mg "bool" = none
  list : mg "list" = none
  tuple : mg "tuple" = none
  isi : mg "isinstance" = none
section
variable {P : Program} {w : World} {K : PySem.W.Frag} {mg : Str → Option Value} {base : Heap}
def cellM (ns : List Int) (k : Nat) : Int := ns.getD k 0
def spCell (K : PySem.W.Frag) : Sp := fun vs H Q _ => ∃ (a : Addr) (ns : List Int) (k : Nat), vs = [.ref a, .int k] ∧ SqL K H a (ns.map V.int) ∧ Q (.int (cellM ns k)) H
theorem sc_cell : FnScope ["_law_script", "_law_k"] ["_law_script", "_law_k"] (defScope s_cell) := ⟨rfl, rfl, rfl, by decide +kernel, rfl, by decide +kernel, by decide +kernel⟩
theorem ok_cell {f : Addr} {fd : FuncData} (D : Df K mg "_law_cell" s_cell ["_law_script", "_law_k"] f fd) (B : Bt mg) : FnOk P w K mg base (CXE P w) 1 f fd ["_law_script", "_law_k"] (spCell K) := by
  refine D.F.okN sc_cell (fun vs H Q E h => ?_) (fun cdv A outer s H vs Q E hr h => ?_)
  · obtain ⟨a, ns, k, rfl, _⟩ := h
    rfl
  · obtain ⟨a, ns, k, rfl, hS, q⟩ := h
    refine ⟨_, pss_cons (ps_if (pt_cmpR op_lt (pv 1) (pe_callB call_len_seq (by rfl) B.len PySem.boot_len (pa_cons (pv 0) pa_nil)) (nomark _))
        (pss_one (ps_ret (pe_ix ix_list (pv 0) (pv 1) (fun _ _ => rfl)))) pss_nil)
      (pss_one (ps_ret pe_int)), ?_⟩
    refine ⟨_, rfl, _, rfl, a, _, rfl, .inl hS, _, _, rfl, rfl, _, rfl, ?_⟩
    refine ite2 (fun c => ?_) (fun c => ?_)
    · have c : (k : Int) < ((ns.map V.int).length : Int) := of_decide_eq_true c
      rw [List.length_map] at c
      have e : (ns.map V.int)[k]? = some (.int (cellM ns k)) := by
        rw [List.getElem?_map, List.getElem?_eq_getElem (by omega)]
        simp [cellM, List.getD_eq_getElem?_getD, List.getElem?_eq_getElem (show k < ns.length by omega)]
      exact ⟨_, rfl, _, rfl, a, _, _, _, rfl, rfl, hS, atI_nat e, q⟩
    · have c : ¬ (k : Int) < ((ns.map V.int).length : Int) := fun z => c (decide_eq_true z)
      rw [List.length_map] at c
      have e : cellM ns k = 0 := by
        simp [cellM, List.getD_eq_getElem?_getD, List.getElem?_eq_none (show ns.length ≤ k by omega)]
      rw [e] at q
      exact q
end
end K01
set_option Elab.async false
set_option linter.all false
set_option maxRecDepth 100000
set_option maxHeartbeats 4000000
namespace K01
open PySem L2
def oneM (c : Int) : Int := (c * 48271 + 11) % 2147483647
def twoM (c : Int) : Int := (oneM c * oneM c + 40692 * oneM c + c) % 2147483399
def sixM (c : Int) : Int := (twoM c * 16807 + oneM c) % 1000000007
def absM (c : Int) : Int := if c < 0 then -c else c
def mixM (c : Int) : Int := if absM c < 10 ^ 18 then twoM c + 2147483399 * (sixM c + 1000000007 * oneM c) else absM c - 10 ^ 18
def drawsGo : Int → List Int → List Int
  | _, [] => []
  | c, p :: r => c % p :: drawsGo (c / p) r
def restM (c : Int) : List Int → Int
  | [] => c
  | p :: r => restM (c / p) r
def drawsM (c : Int) (ps : List Int) : List Int := drawsGo (mixM c) ps
theorem go_len : ∀ (ps : List Int) (c : Int), (drawsGo c ps).length = ps.length
  | [], _ => rfl
  | p :: r, c => by show (drawsGo (c / p) r).length + 1 = r.length + 1; rw [go_len r]
theorem rest_take : ∀ (ps : List Int) (c : Int) (i : Nat) (p : Int), ps[i]? = some p → restM c (ps.take (i + 1)) = restM c (ps.take i) / p
  | q :: r, c, 0, p, h => by simp at h; subst h; rfl
  | q :: r, c, i + 1, p, h => by
    show restM (c / q) (r.take (i + 1)) = restM (c / q) (r.take i) / p
    exact rest_take r (c / q) i p (by simpa using h)
theorem go_take : ∀ (ps : List Int) (c : Int) (i : Nat) (p : Int), ps[i]? = some p → (drawsGo c ps).take (i + 1) = (drawsGo c ps).take i ++ [restM c (ps.take i) % p]
  | q :: r, c, 0, p, h => by simp at h; subst h; simp [drawsGo, restM]
  | q :: r, c, i + 1, p, h => by
    show (c % q) :: (drawsGo (c / q) r).take (i + 1) = (c % q) :: ((drawsGo (c / q) r).take i ++ [restM (c / q) (r.take i) % p])
    rw [go_take r (c / q) i p (by simpa using h)]
theorem one_b (c : Int) : 0 ≤ oneM c ∧ oneM c < 2147483647 := ⟨Int.emod_nonneg _ (by decide), Int.emod_lt_of_pos _ (by decide)⟩
theorem two_b (c : Int) : 0 ≤ twoM c ∧ twoM c < 2147483399 := ⟨Int.emod_nonneg _ (by decide), Int.emod_lt_of_pos _ (by decide)⟩
theorem six_b (c : Int) : 0 ≤ sixM c ∧ sixM c < 1000000007 := ⟨Int.emod_nonneg _ (by decide), Int.emod_lt_of_pos _ (by decide)⟩
section
variable {P : Program} {w : World} {K : PySem.W.Frag} {mg : Str → Option Value} {base : Heap}
def spDraws (K : PySem.W.Frag) : Sp := fun vs H Q _ => ∃ (c : Int) (p : Addr) (ps : List Int), vs = [.int c, .ref p] ∧ SqL K H p (ps.map V.int) ∧ (∀ x ∈ ps, 0 < x ∧ x < 1073741824) ∧ ps.length ≤ 100 ∧
  ∀ q H', Same H H' → H q = none → H' q = some (.lst ((drawsM c ps).map V.int)) → Q (.ref q) H'
theorem sc_draws : FnScope ["_law_cell_here", "_law_parts", "_law_one", "_law_two", "_law_six", "_law_found", "_law_part"] ["_law_cell_here", "_law_parts"] (defScope s_draws) := ⟨rfl, rfl, rfl, by decide +kernel, rfl, by decide +kernel, by decide +kernel⟩
theorem ok_draws {f : Addr} {fd : FuncData} (D : Df K mg "_law_draws" s_draws ["_law_cell_here", "_law_parts"] f fd) (B : Bt mg) : FnOk P w K mg base (CXE P w) 1 f fd ["_law_cell_here", "_law_parts"] (spDraws K) := by
  refine D.F.okN sc_draws (fun vs H Q E h => ?_) (fun cdv A outer s H vs Q E hr h => ?_)
  · obtain ⟨c, p, ps, rfl, _⟩ := h
    rfl
  · obtain ⟨c, p, ps, rfl, hS, hps, hl, k⟩ := h
    refine ⟨_, pss_cons (ps_cut (fun σ' H' => H' = H ∧ ∃ x2 x3 x4, σ' = [some (.int (mixM c)), some (.ref p), x2, x3, x4, none, none])
        (ps_if (pt_cmpR op_lt (pe_callB call_abs (by rfl) B.abs PyProof.Rows.boot_abs (pa_cons (pv 0) pa_nil)) (pe_op op_pow pe_int pe_int) (nomark _))
          (pss_cons (ps_set (i := 2) sc_draws.nd rfl (Or.inl rfl) (pe_op op_mod (pe_op op_add (pe_op op_mul (pv 0) pe_int) pe_int) pe_int))
          (pss_cons (ps_set (i := 3) sc_draws.nd rfl (Or.inl rfl) (pe_op op_mod (pe_op op_add (pe_op op_add (pe_op op_mul (pv 2) (pv 2)) (pe_op op_mul pe_int (pv 2))) (pv 0)) pe_int))
          (pss_cons (ps_set (i := 4) sc_draws.nd rfl (Or.inl rfl) (pe_op op_mod (pe_op op_add (pe_op op_mul (pv 3) pe_int) (pv 2)) pe_int))
          (pss_one (ps_set (i := 0) sc_draws.nd rfl (Or.inl rfl) (pe_op op_add (pv 3) (pe_op op_mul pe_int (pe_op op_add (pv 4) (pe_op op_mul pe_int (pv 2))))))))))
          (pss_one (ps_set (i := 0) sc_draws.nd rfl (Or.inl rfl) (pe_op op_sub (pe_callB call_abs (by rfl) B.abs PyProof.Rows.boot_abs (pa_cons (pv 0) pa_nil)) (pe_op op_pow pe_int pe_int))))))
      (pss_cons (ps_set (i := 5) sc_draws.nd rfl (Or.inl rfl) (pe_lst pa_nil))
      (pss_cons (ps_for PassesOwn.never rfl (pi_list (pv 1)) (pg_name (i := 6) sc_draws.nd rfl (Or.inl rfl))
        (pss_cons (ps_expr (pe_bm PySem.F.plainAttrs_list PySem.F.slot_list_append PySem.F.type_list_append mt_append (pv 5) (pa_cons (pe_op op_mod (pv 0) (pv 6)) pa_nil)))
        (pss_one (ps_set (i := 0) sc_draws.nd rfl (Or.inl rfl) (pe_op op_fdiv (pv 0) (pv 6))))))
      (pss_one (ps_ret (pv 5))))), ?_⟩
    have b1 := one_b c
    have b2 := two_b c
    have b3 := six_b c
    refine ⟨?_, ?_⟩
    · refine ⟨_, rfl, _, rfl, _, _, rfl, rfl, ⟨by decide, by decide, by decide⟩, _, _, rfl, rfl, _, rfl, ?_⟩
      refine ite2 (fun z => ?_) (fun z => ?_)
      · have z : absM c < 10 ^ 18 := of_decide_eq_true z
        refine ⟨_, rfl, _, _, rfl, rfl, .inr ⟨by decide, by decide⟩, _, _, rfl, rfl, _, _, rfl, rfl, (by show (0 : Int) < 2147483647; decide), ?_⟩
        refine ⟨_, rfl, _, rfl, _, _, rfl, rfl, .inl ⟨?_, ?_⟩, _, rfl, _, _, rfl, rfl, .inl ⟨by decide, by decide⟩, _, _, rfl, rfl, _, rfl, _, _, rfl, rfl, _, _, rfl, rfl, (by show (0 : Int) < 2147483399; decide), ?_⟩
        · show -(2 ^ 64) < oneM c; omega
        · show oneM c < 2 ^ 64; omega
        refine ⟨_, rfl, _, _, rfl, rfl, .inr ⟨by decide, by decide⟩, _, rfl, _, _, rfl, rfl, _, _, rfl, rfl, (by show (0 : Int) < 1000000007; decide), ?_⟩
        refine ⟨_, rfl, _, rfl, _, rfl, _, _, rfl, rfl, .inl ⟨by decide, by decide⟩, _, _, rfl, rfl, _, _, rfl, rfl, .inl ⟨by decide, by decide⟩, _, _, rfl, rfl, ?_⟩
        refine ⟨rfl, some (.int (oneM c)), some (.int (twoM c)), some (.int (sixM c)), ?_⟩
        have e : mixM c = twoM c + 2147483399 * (sixM c + 1000000007 * oneM c) := if_pos z
        rw [e]
        rfl
      · have z : ¬ absM c < 10 ^ 18 := fun q => z (decide_eq_true q)
        refine ⟨_, rfl, _, rfl, _, _, rfl, rfl, ⟨by decide, by decide, by decide⟩, _, _, rfl, rfl, ?_⟩
        refine ⟨rfl, none, none, none, ?_⟩
        have e : mixM c = absM c - 10 ^ 18 := if_neg z
        rw [e]
        rfl
    · rintro σ' H' ⟨rfl, x2, x3, x4, rfl⟩
      refine ⟨Nat.zero_le _, fun q hq => ?_⟩
      have S0 : Same H' (upd H' q (.lst [])) := Same.new hq
      refine ⟨_, rfl, p, rfl, ⟨_, S0.seq hS⟩, for_list (K := K) (a := p) (xs := ps.map V.int) (fun i σ H2 => ∃ v, σ = [some (.int (restM (mixM c) (ps.take i))), some (.ref p), x2, x3, x4, some (.ref q), v] ∧ Same H' H2 ∧ H2 q = some (.lst (((drawsM c ps).take i).map V.int)))
        ⟨none, rfl, S0, upd_same⟩ (fun i σ H2 _ ⟨_, _, s2, _⟩ => s2.seq hS) ?_ ?_⟩
      · rintro i y σ H2 hi ⟨v, rfl, s2, e2⟩
        rw [List.getElem?_map] at hi
        cases z : ps[i]? with
        | none => rw [z] at hi; cases hi
        | some d =>
          rw [z] at hi
          cases hi
          obtain ⟨d1, d2⟩ := hps d (List.mem_of_getElem? z)
          have il : i < ps.length := (List.getElem?_eq_some_iff.mp z).1
          refine ⟨_, rfl, .inl ⟨rfl, _, SqL.of e2⟩, _, rfl, _, rfl, _, _, rfl, rfl, d1, q, _, _, rfl, rfl, e2, ?_, ?_⟩
          · rw [List.length_map, List.length_take]
            exact small1000 (by omega)
          refine ⟨_, rfl, _, rfl, _, _, rfl, rfl, ⟨d1, d2⟩, ?_⟩
          refine ⟨some (.int d), ?_, fun b o hb => ?_, ?_⟩
          · rw [rest_take ps (mixM c) i d z]; rfl
          · rw [upd_ne (ne_of_none hb hq)]
            exact s2 b o hb
          · rw [upd_same]
            show some (HO.lst _) = _
            unfold drawsM
            rw [go_take ps (mixM c) i d z, List.map_append]
            rfl
      · rintro σ H2 ⟨v, rfl, s2, e2⟩
        refine ⟨_, rfl, k q H2 s2 hq ?_⟩
        rw [e2]
        have : (drawsM c ps).take (ps.map V.int).length = drawsM c ps := List.take_of_length_le (by unfold drawsM; rw [go_len, List.length_map]; exact Nat.le_refl _)
        rw [this]
end
end K01
set_option Elab.async false
set_option linter.all false
set_option maxRecDepth 100000
set_option maxHeartbeats 4000000
namespace K01
open PySem L2
abbrev s_same : Stmt := top 20
section
variable {P : Program} {w : World} {K : PySem.W.Frag} {mg : Str → Option Value} {base : Heap}
def spSame (K : PySem.W.Frag) : Nat → Sp
  | 0 => fun _ _ _ _ => False
  | m + 1 => fun vs H Q _ => ∃ (v1 v2 : V) (d1 d2 : Dt), vs = [v1, v2] ∧ Den K H v1 d1 ∧ Den K H v2 d2 ∧ d2.deep ≤ m ∧ ∀ H', Same H H' → Q (.bl (d1.eqb d2)) H'
theorem sc_same : FnScope ["_law_found", "_law_due"] ["_law_found", "_law_due"] (defScope s_same) := ⟨rfl, rfl, rfl, by decide +kernel, rfl, by decide +kernel, by decide +kernel⟩
theorem small1000' {n : Nat} (h : n ≤ 5000) : n < sizeLine := Nat.lt_of_le_of_lt h (by decide)
theorem nd3 : (["_law_k", "_law_found", "_law_due"] : List Str).Nodup := by decide +kernel
abbrev Ps : List Str := ["_law_found", "_law_due"]
theorem ok_same {f : Addr} {fd : FuncData} (D : Df K mg "_law_same" s_same Ps f fd) (B : Bt mg) (m : Nat) : FnOk P w K mg base (CXE P w) m f fd Ps (spSame K m) := by
  induction m with
  | zero => exact FnOk.no
  | succ m G =>
    refine D.F.okN sc_same (fun vs H Q E h => ?_) (fun cdv A outer s H vs Q E hr h => ?_)
    · obtain ⟨v1, v2, d1, d2, rfl, _⟩ := h
      rfl
    · obtain ⟨v1, v2, d1, d2, rfl, h1, h2, hd, k⟩ := h
      refine ⟨_, pss_cons (ps_if (pt_cmpR op_isN (pv 1) pe_non (nomark _)) (pss_one (ps_ret (pe_cmpR op_isN (pv 0) pe_non (nomark _)))) pss_nil)
        (pss_cons (ps_if (pt_val (pe_callB call_isi (by rfl) B.isi (by rfl) (pa_cons (pv 1) (pa_cons (pe_bltn (by rfl) B.str (v := .ty "str") (u := .type "str") (by rfl) rfl) pa_nil))))
            (pss_one (ps_ret (pe_and (pe_callB call_isi (by rfl) B.isi (by rfl) (pa_cons (pv 0) (pa_cons (pe_bltn (by rfl) B.str (v := .ty "str") (u := .type "str") (by rfl) rfl) pa_nil)))
              (pe_one (pe_cmpR op_eq (pv 0) (pv 1) (nomark _)))))) pss_nil)
        (pss_cons (ps_if (pt_val (pe_callB call_isi (by rfl) B.isi (by rfl) (pa_cons (pv 1) (pa_cons (pe_bltn (by rfl) B.int (v := .ty "int") (u := .type "int") (by rfl) rfl) pa_nil))))
            (pss_one (ps_ret (pe_and (pe_callB call_isi (by rfl) B.isi (by rfl) (pa_cons (pv 0) (pa_cons (pe_bltn (by rfl) B.int (v := .ty "int") (u := .type "int") (by rfl) rfl) pa_nil)))
              (pe_and (pe_cmpR op_eq (pe_callB call_isi (by rfl) B.isi (by rfl) (pa_cons (pv 0) (pa_cons (pe_bltn (by rfl) B.bool (v := .ty "bool") (u := .type "bool") (by rfl) rfl) pa_nil)))
                  (pe_callB call_isi (by rfl) B.isi (by rfl) (pa_cons (pv 1) (pa_cons (pe_bltn (by rfl) B.bool (v := .ty "bool") (u := .type "bool") (by rfl) rfl) pa_nil))) (nomark _))
                (pe_one (pe_cmpR op_eq (pv 0) (pv 1) (nomark _))))))) pss_nil)
        (pss_cons (ps_if (PW.pt (pw_or (pt_cmpR op_ne (pe_callB call_isi (by rfl) B.isi (by rfl) (pa_cons (pv 1) (pa_cons (pe_bltn (by rfl) B.list (v := .ty "list") (u := .type "list") (by rfl) rfl) pa_nil)))
                  (pe_callB call_isi (by rfl) B.isi (by rfl) (pa_cons (pv 0) (pa_cons (pe_bltn (by rfl) B.list (v := .ty "list") (u := .type "list") (by rfl) rfl) pa_nil))) (nomark _))
                (pw_or1 (pt_cmpR op_ne (pe_callB call_isi (by rfl) B.isi (by rfl) (pa_cons (pv 1) (pa_cons (pe_bltn (by rfl) B.tuple (v := .ty "tuple") (u := .type "tuple") (by rfl) rfl) pa_nil)))
                  (pe_callB call_isi (by rfl) B.isi (by rfl) (pa_cons (pv 0) (pa_cons (pe_bltn (by rfl) B.tuple (v := .ty "tuple") (u := .type "tuple") (by rfl) rfl) pa_nil))) (nomark _)))))
            (pss_one (ps_ret pe_bl)) pss_nil)
        (pss_one (ps_ret (pe_and (pe_cmpR op_eq (pe_callB call_len_seq (by rfl) B.len PySem.boot_len (pa_cons (pv 0) pa_nil)) (pe_callB call_len_seq (by rfl) B.len PySem.boot_len (pa_cons (pv 1) pa_nil)) (nomark _))
          (pe_one (pe_callB (call_all rfl) (by rfl) B.all (by rfl) (pa_cons
            (pe_comp (N' := ["_law_k", "_law_found", "_law_due"]) (fm := [none, some 0, some 1]) rfl ⟨rfl, by decide +kernel, by decide +kernel, rfl, rfl, rfl⟩
              (pi_range1 (by rfl) B.range (pa_cons (pe_callB call_len_seq (by rfl) B.len PySem.boot_len (pa_cons (pv 1) pa_nil)) pa_nil))
              (fun _ _ _ _ => pg_name (i := 0) nd3 rfl (Or.inl rfl)) (fun _ _ _ _ => pif_nil)
              (fun _ _ _ _ => pe_fn D G hr passN (pa_cons (pe_ix (r := rIx K) ix_seq (pv 1) (pv 0) (fun _ _ => rfl)) (pa_cons (pe_ix (r := rIx K) ix_seq (pv 2) (pv 0) (fun _ _ => rfl)) pa_nil)))) pa_nil))))))))), ?_⟩
      have kk := h1.kdIs
      have fin := k H (Same.refl H)
      cases h2 with
      | non =>
        refine ⟨_, rfl, rfl, _, rfl, iteT ⟨_, rfl, rfl, ?_⟩⟩
        have e := h1.isN
        rw [e]
        exact fin
      | str y =>
        refine ⟨_, rfl, rfl, _, rfl, iteF ⟨_, rfl, _, .str, "str", true, rfl, trivial, rfl, _, rfl, iteT ?_⟩⟩
        cases h1 with
        | str x =>
          refine ⟨_, rfl, _, .str, "str", true, rfl, trivial, rfl, _, rfl, iteT ⟨_, rfl, _, rfl, rfl, ?_⟩⟩
          have e : decide (V.str x = V.str y) = (Dt.str x).eqb (.str y) := by simp [Dt.eqb]
          rw [e]
          exact fin
        | non => exact ⟨_, rfl, _, .non, "str", false, rfl, kk, rfl, _, rfl, iteF fin⟩
        | bl _ => exact ⟨_, rfl, _, .bl, "str", false, rfl, kk, rfl, _, rfl, iteF fin⟩
        | int _ => exact ⟨_, rfl, _, .int, "str", false, rfl, kk, rfl, _, rfl, iteF fin⟩
        | lst _ _ _ _ => exact ⟨_, rfl, _, .lst, "str", false, rfl, kk, rfl, _, rfl, iteF fin⟩
        | tup _ _ _ _ => exact ⟨_, rfl, _, .tup, "str", false, rfl, kk, rfl, _, rfl, iteF fin⟩
      | int y =>
        refine ⟨_, rfl, rfl, _, rfl, iteF ⟨_, rfl, _, .int, "str", false, rfl, trivial, rfl, _, rfl, iteF ⟨_, rfl, _, .int, "int", true, rfl, trivial, rfl, _, rfl, iteT ?_⟩⟩⟩
        cases h1 with
        | int x =>
          refine ⟨_, rfl, _, .int, "int", true, rfl, trivial, rfl, _, rfl, iteT ⟨_, rfl, _, .int, "bool", false, rfl, trivial, rfl, _, rfl, _, .int, "bool", false, rfl, trivial, rfl, rfl, _, rfl, iteT ⟨_, rfl, _, rfl, rfl, ?_⟩⟩⟩
          have e : decide (V.int x = V.int y) = (Dt.int x).eqb (.int y) := dec_int
          rw [e]
          exact fin
        | bl x => exact ⟨_, rfl, _, .bl, "int", true, rfl, trivial, rfl, _, rfl, iteT ⟨_, rfl, _, .bl, "bool", true, rfl, trivial, rfl, _, rfl, _, .int, "bool", false, rfl, trivial, rfl, rfl, _, rfl, iteF fin⟩⟩
        | non => exact ⟨_, rfl, _, .non, "int", false, rfl, kk, rfl, _, rfl, iteF fin⟩
        | str _ => exact ⟨_, rfl, _, .str, "int", false, rfl, kk, rfl, _, rfl, iteF fin⟩
        | lst _ _ _ _ => exact ⟨_, rfl, _, .lst, "int", false, rfl, kk, rfl, _, rfl, iteF fin⟩
        | tup _ _ _ _ => exact ⟨_, rfl, _, .tup, "int", false, rfl, kk, rfl, _, rfl, iteF fin⟩
      | bl y =>
        refine ⟨_, rfl, rfl, _, rfl, iteF ⟨_, rfl, _, .bl, "str", false, rfl, trivial, rfl, _, rfl, iteF ⟨_, rfl, _, .bl, "int", true, rfl, trivial, rfl, _, rfl, iteT ?_⟩⟩⟩
        cases h1 with
        | bl x =>
          refine ⟨_, rfl, _, .bl, "int", true, rfl, trivial, rfl, _, rfl, iteT ⟨_, rfl, _, .bl, "bool", true, rfl, trivial, rfl, _, rfl, _, .bl, "bool", true, rfl, trivial, rfl, rfl, _, rfl, iteT ⟨_, rfl, _, rfl, rfl, ?_⟩⟩⟩
          have e : decide (V.bl x = V.bl y) = (Dt.bl x).eqb (.bl y) := dec_bl
          rw [e]
          exact fin
        | int x => exact ⟨_, rfl, _, .int, "int", true, rfl, trivial, rfl, _, rfl, iteT ⟨_, rfl, _, .int, "bool", false, rfl, trivial, rfl, _, rfl, _, .bl, "bool", true, rfl, trivial, rfl, rfl, _, rfl, iteF fin⟩⟩
        | non => exact ⟨_, rfl, _, .non, "int", false, rfl, kk, rfl, _, rfl, iteF fin⟩
        | str _ => exact ⟨_, rfl, _, .str, "int", false, rfl, kk, rfl, _, rfl, iteF fin⟩
        | lst _ _ _ _ => exact ⟨_, rfl, _, .lst, "int", false, rfl, kk, rfl, _, rfl, iteF fin⟩
        | tup _ _ _ _ => exact ⟨_, rfl, _, .tup, "int", false, rfl, kk, rfl, _, rfl, iteF fin⟩
      | @lst a2 xs2 ds2 hq2 hl2 hz2 hx2 =>
        have k2 : kdIs K H (.ref a2) .lst := ⟨_, hq2⟩
        refine ⟨_, rfl, rfl, _, rfl, iteF ⟨_, rfl, _, .lst, "str", false, rfl, k2, rfl, _, rfl, iteF ⟨_, rfl, _, .lst, "int", false, rfl, k2, rfl, _, rfl, iteF ⟨_, rfl, _, .lst, "list", true, rfl, k2, rfl, ?_⟩⟩⟩⟩
        cases h1 with
        | non => exact ⟨_, rfl, _, .non, "list", false, rfl, kk, rfl, rfl, _, rfl, iteT (iteT fin)⟩
        | bl _ => exact ⟨_, rfl, _, .bl, "list", false, rfl, kk, rfl, rfl, _, rfl, iteT (iteT fin)⟩
        | int _ => exact ⟨_, rfl, _, .int, "list", false, rfl, kk, rfl, rfl, _, rfl, iteT (iteT fin)⟩
        | str _ => exact ⟨_, rfl, _, .str, "list", false, rfl, kk, rfl, rfl, _, rfl, iteT (iteT fin)⟩
        | tup _ _ _ _ => exact ⟨_, rfl, _, .tup, "list", false, rfl, kk, rfl, rfl, _, rfl, iteT (iteT fin)⟩
        | @lst a1 xs1 ds1 hq1 hl1 hz1 hx1 =>
          refine ⟨_, rfl, _, .lst, "list", true, rfl, kk, rfl, rfl, _, rfl, iteF ⟨_, rfl, _, .lst, "tuple", false, rfl, k2, rfl, _, rfl, _, .lst, "tuple", false, rfl, kk, rfl, rfl, _, rfl, iteF ?_⟩⟩
          refine ⟨_, rfl, a1, _, rfl, .inl hq1, _, rfl, a2, _, rfl, .inl hq2, rfl, _, rfl, ?_⟩
          refine ite2 (fun c => ?_) (fun c => ?_)
          · have c : V.int ((xs1.length : Nat) : Int) = V.int ((xs2.length : Nat) : Int) := of_decide_eq_true c
            have el : ds1.length = ds2.length := by injection c with c; omega
            cases m with
            | zero => exact absurd hd (by show ¬ 1 + _ ≤ 0; omega)
            | succ m =>
              refine ⟨_, rfl, a2, _, rfl, .inl hq2, _, rfl, by omega, by rw [hl2]; omega, fun p hp => ?_⟩
              have en : ((xs2.length : Nat) : Int).toNat = ds2.length := by omega
              rw [en]
              refine blk_range (fun i σ H2 => ∃ v, σ = [v, some (.ref a1), some (.ref a2)] ∧ Same H H2 ∧ H2 p = some (.lst ((((ds1.zip ds2).map fun q => q.1.eqb q.2).take i).map V.bl))) ⟨none, rfl, Same.new hp, upd_same⟩ ?_ ?_
              · rintro i σ H2 hi ⟨v, rfl, s2, e2⟩
                have e1 : ds1[i]? = some ds1[i] := List.getElem?_eq_getElem (by omega)
                have e2' : ds2[i]? = some ds2[i] := List.getElem?_eq_getElem hi
                have f1 : xs1[i]? = some xs1[i] := List.getElem?_eq_getElem (by omega)
                have f2 : xs2[i]? = some xs2[i] := List.getElem?_eq_getElem (by omega)
                have ei : (0 : Int) + (i : Int) = (i : Int) := Int.zero_add _
                refine turn_all ⟨_, rfl, _, rfl, .inl ⟨a1, _, _, _, rfl, rfl, s2.seq hq1, (by rw [ei]; exact atI_nat f1), _, rfl, _, rfl, .inl ⟨a2, _, _, _, rfl, rfl, s2.seq hq2, (by rw [ei]; exact atI_nat f2), ?_⟩⟩⟩
                refine ⟨_, _, _, _, rfl, (hx1 i _ _ f1 e1).mono s2, (hx2 i _ _ f2 e2').mono s2, ?_, fun H3 s3 => ?_⟩
                · have h1 : 1 + Dt.deep.deeps ds2 ≤ m + 1 := hd
                  have := deep_mem e2'
                  omega
                · refine ⟨_, s3 p _ e2, ?_, _, rfl, fun b o hb => ?_, ?_⟩
                  · rw [List.length_map, List.length_take]
                    exact small1000' (by omega)
                  · rw [upd_ne (ne_of_none hb hp)]
                    exact s3 b o (s2 b o hb)
                  · rw [upd_same]
                    have z : ((ds1.zip ds2).map fun q => q.1.eqb q.2)[i]? = some (ds1[i].eqb ds2[i]) := by
                      rw [List.getElem?_map, (List.getElem?_zip_eq_some (z := (ds1[i], ds2[i]))).mpr ⟨e1, e2'⟩]
                      rfl
                    rw [List.take_add_one, z, List.map_append]
                    rfl
              · rintro σ H2 ⟨v, rfl, s2, e2⟩
                have ek : ((ds1.zip ds2).map fun q => q.1.eqb q.2).take ds2.length = ((ds1.zip ds2).map fun q => q.1.eqb q.2) := List.take_of_length_le (by rw [List.length_map, List.length_zip]; omega)
                rw [ek] at e2
                refine ⟨p, _, rfl, SqL.of e2, ?_⟩
                have := k H2 s2
                have ee : (Dt.lst ds1).eqb (Dt.lst ds2) = ((ds1.zip ds2).map fun q => q.1.eqb q.2).all id := eqbs_all ds1 ds2 el
                rw [ee] at this
                exact this
          · have el : ds1.length ≠ ds2.length := fun z => c (decide_eq_true (by rw [hl1, hl2, z]))
            have ee : (Dt.lst ds1).eqb (Dt.lst ds2) = false := eqbs_len ds1 ds2 el
            rw [ee] at fin
            exact fin
      | @tup a2 xs2 ds2 hq2 hl2 hz2 hx2 =>
        have k2 : kdIs K H (.ref a2) .tup := ⟨_, hq2⟩
        refine ⟨_, rfl, rfl, _, rfl, iteF ⟨_, rfl, _, .tup, "str", false, rfl, k2, rfl, _, rfl, iteF ⟨_, rfl, _, .tup, "int", false, rfl, k2, rfl, _, rfl, iteF ⟨_, rfl, _, .tup, "list", false, rfl, k2, rfl, ?_⟩⟩⟩⟩
        cases h1 with
        | non => exact ⟨_, rfl, _, .non, "list", false, rfl, kk, rfl, rfl, _, rfl, iteF ⟨_, rfl, _, .tup, "tuple", true, rfl, k2, rfl, _, rfl, _, .non, "tuple", false, rfl, kk, rfl, rfl, _, rfl, iteT fin⟩⟩
        | bl _ => exact ⟨_, rfl, _, .bl, "list", false, rfl, kk, rfl, rfl, _, rfl, iteF ⟨_, rfl, _, .tup, "tuple", true, rfl, k2, rfl, _, rfl, _, .bl, "tuple", false, rfl, kk, rfl, rfl, _, rfl, iteT fin⟩⟩
        | int _ => exact ⟨_, rfl, _, .int, "list", false, rfl, kk, rfl, rfl, _, rfl, iteF ⟨_, rfl, _, .tup, "tuple", true, rfl, k2, rfl, _, rfl, _, .int, "tuple", false, rfl, kk, rfl, rfl, _, rfl, iteT fin⟩⟩
        | str _ => exact ⟨_, rfl, _, .str, "list", false, rfl, kk, rfl, rfl, _, rfl, iteF ⟨_, rfl, _, .tup, "tuple", true, rfl, k2, rfl, _, rfl, _, .str, "tuple", false, rfl, kk, rfl, rfl, _, rfl, iteT fin⟩⟩
        | lst _ _ _ _ => exact ⟨_, rfl, _, .lst, "list", true, rfl, kk, rfl, rfl, _, rfl, iteT (iteT fin)⟩
        | @tup a1 xs1 ds1 hq1 hl1 hz1 hx1 =>
          refine ⟨_, rfl, _, .tup, "list", false, rfl, kk, rfl, rfl, _, rfl, iteF ⟨_, rfl, _, .tup, "tuple", true, rfl, k2, rfl, _, rfl, _, .tup, "tuple", true, rfl, kk, rfl, rfl, _, rfl, iteF ?_⟩⟩
          refine ⟨_, rfl, a1, _, rfl, .inr hq1, _, rfl, a2, _, rfl, .inr hq2, rfl, _, rfl, ?_⟩
          refine ite2 (fun c => ?_) (fun c => ?_)
          · have c : V.int ((xs1.length : Nat) : Int) = V.int ((xs2.length : Nat) : Int) := of_decide_eq_true c
            have el : ds1.length = ds2.length := by injection c with c; omega
            cases m with
            | zero => exact absurd hd (by show ¬ 1 + _ ≤ 0; omega)
            | succ m =>
              refine ⟨_, rfl, a2, _, rfl, .inr hq2, _, rfl, by omega, by rw [hl2]; omega, fun p hp => ?_⟩
              have en : ((xs2.length : Nat) : Int).toNat = ds2.length := by omega
              rw [en]
              refine blk_range (fun i σ H2 => ∃ v, σ = [v, some (.ref a1), some (.ref a2)] ∧ Same H H2 ∧ H2 p = some (.lst ((((ds1.zip ds2).map fun q => q.1.eqb q.2).take i).map V.bl))) ⟨none, rfl, Same.new hp, upd_same⟩ ?_ ?_
              · rintro i σ H2 hi ⟨v, rfl, s2, e2⟩
                have e1 : ds1[i]? = some ds1[i] := List.getElem?_eq_getElem (by omega)
                have e2' : ds2[i]? = some ds2[i] := List.getElem?_eq_getElem hi
                have f1 : xs1[i]? = some xs1[i] := List.getElem?_eq_getElem (by omega)
                have f2 : xs2[i]? = some xs2[i] := List.getElem?_eq_getElem (by omega)
                have ei : (0 : Int) + (i : Int) = (i : Int) := Int.zero_add _
                refine turn_all ⟨_, rfl, _, rfl, .inr (.inl ⟨a1, _, _, _, rfl, rfl, s2.seqT hq1, (by rw [ei]; exact atI_nat f1), _, rfl, _, rfl, .inr (.inl ⟨a2, _, _, _, rfl, rfl, s2.seqT hq2, (by rw [ei]; exact atI_nat f2), ?_⟩)⟩)⟩
                refine ⟨_, _, _, _, rfl, (hx1 i _ _ f1 e1).mono s2, (hx2 i _ _ f2 e2').mono s2, ?_, fun H3 s3 => ?_⟩
                · have h1 : 1 + Dt.deep.deeps ds2 ≤ m + 1 := hd
                  have := deep_mem e2'
                  omega
                · refine ⟨_, s3 p _ e2, ?_, _, rfl, fun b o hb => ?_, ?_⟩
                  · rw [List.length_map, List.length_take]
                    exact small1000' (by omega)
                  · rw [upd_ne (ne_of_none hb hp)]
                    exact s3 b o (s2 b o hb)
                  · rw [upd_same]
                    have z : ((ds1.zip ds2).map fun q => q.1.eqb q.2)[i]? = some (ds1[i].eqb ds2[i]) := by
                      rw [List.getElem?_map, (List.getElem?_zip_eq_some (z := (ds1[i], ds2[i]))).mpr ⟨e1, e2'⟩]
                      rfl
                    rw [List.take_add_one, z, List.map_append]
                    rfl
              · rintro σ H2 ⟨v, rfl, s2, e2⟩
                have ek : ((ds1.zip ds2).map fun q => q.1.eqb q.2).take ds2.length = ((ds1.zip ds2).map fun q => q.1.eqb q.2) := List.take_of_length_le (by rw [List.length_map, List.length_zip]; omega)
                rw [ek] at e2
                refine ⟨p, _, rfl, SqL.of e2, ?_⟩
                have := k H2 s2
                have ee : (Dt.tup ds1).eqb (Dt.tup ds2) = ((ds1.zip ds2).map fun q => q.1.eqb q.2).all id := eqbs_all ds1 ds2 el
                rw [ee] at this
                exact this
          · have el : ds1.length ≠ ds2.length := fun z => c (decide_eq_true (by rw [hl1, hl2, z]))
            have ee : (Dt.tup ds1).eqb (Dt.tup ds2) = false := eqbs_len ds1 ds2 el
            rw [ee] at fin
            exact fin
end
end K01
set_option Elab.async false
set_option linter.all false
set_option maxRecDepth 100000
set_option maxHeartbeats 1000000
namespace K01
open PySem L2
open PyProof.Rows (envOfC)
abbrev s_winit : Stmt := inClass (top 1) 0
abbrev s_cinit : Stmt := inClass (top 2) 0
abbrev s_sinit : Stmt := inClass (top 3) 0
abbrev s_ccount : Stmt := top 8
abbrev s_csign : Stmt := top 9
structure Xs (K : PySem.W.Frag) (mg : Str → Option Value) (W BC BS fW fC fS : Addr) (gW gC gS : FuncData) : Prop where
  mW : mg "WapentakeError" = some (.ref W)
  mC : mg "BadCount" = some (.ref BC)
  mS : mg "BadSign" = some (.ref BS)
  mV : mg "ValueError" = none
  mQ : ∃ t, mg "MOST_QUESTIONS" = some (.int 12 t)
  mN : ∃ t, mg "LONGEST_NAME" = some (.int 12 t)
  mG : ∃ t, mg "SIGNS" = some (.str "ny" t)
  kW : XKl K W
  kC : XKl K BC
  kS : XKl K BS
  sC : XSub K BC W
  sS : XSub K BS W
  aW : XAt K W "__init__" fW
  iC : XMk K BC fC
  iS : XMk K BS fS
  FW : Fun K "__init__" "WapentakeError.__init__" s_winit fW gW
  FC : Fun K "__init__" "BadCount.__init__" s_cinit fC gC
  FS : Fun K "__init__" "BadSign.__init__" s_sinit fS gS
  bW : Binds K gW ["self", "word"] []
  bC : Binds K gC ["self"] []
  bS : Binds K gS ["self"] []
section
variable {P : Program} {w : World} {K : PySem.W.Frag} {mg : Str → Option Value} {base : Heap} {W BC BS fW fC fS : Addr} {gW gC gS : FuncData}
def spWInit (K : PySem.W.Frag) : Sp := fun vs H Q _ => ∃ (ea C : Addr) (tb : Value) (ww : Str), vs = [.ref ea, .str ww] ∧ H ea = some (XO C none tb ea) ∧ XKl K C ∧ ∀ dx, H dx = none → Q .non (upd (upd H ea (XO C (some dx) tb ea)) dx (.xd [("word", .str ww)]))
theorem sc_winit : FnScope ["self", "word"] ["self", "word"] (defScope s_winit) := ⟨rfl, rfl, rfl, by decide +kernel, rfl, by decide +kernel, by decide +kernel⟩
theorem ok_winit (T : Xs K mg W BC BS fW fC fS gW gC gS) : FnOk P w K mg base (CXE P w) 1 fW gW ["self", "word"] (spWInit K) := by
  refine T.FW.okN sc_winit (fun vs H Q E h => ?_) (fun cdv A outer s H vs Q E hr h => ?_)
  · obtain ⟨ea, C, tb, ww, rfl, _⟩ := h
    rfl
  · obtain ⟨ea, C, tb, ww, rfl, e1, XC, k⟩ := h
    refine ⟨_, pss_cons (ps_expr (pe_vinit (by rfl) T.mV (pa_cons (pv 0) (pa_cons (pv 1) pa_nil)))) (pss_one (ps_xfld (pv 0) (pv 1))), ?_⟩
    exact ⟨_, rfl, _, rfl, ea, C, none, tb, _, rfl, e1, XC, _, rfl, _, rfl, ea, C, tb, rfl, e1, XC, XC.nw, fun dx hd => k dx hd⟩
def spInit (C : Addr) (ww : Str) : Sp := fun vs H Q _ => ∃ (ea : Addr) (tb : Value), vs = [.ref ea] ∧ H ea = some (XO C none tb ea) ∧ ∀ dx, H dx = none → Q .non (upd (upd H ea (XO C (some dx) tb ea)) dx (.xd [("word", .str ww)]))
theorem sc_cinit : FnScope ["self"] ["self"] (defScope s_cinit) := ⟨rfl, rfl, rfl, by decide +kernel, rfl, by decide +kernel, by decide +kernel⟩
theorem ok_cinit (T : Xs K mg W BC BS fW fC fS gW gC gS) : FnOk P w K mg base (CXE P w) 2 fC gC ["self"] (spInit BC "bad count") := by
  refine T.FC.okN sc_cinit (fun vs H Q E h => ?_) (fun cdv A outer s H vs Q E hr h => ?_)
  · obtain ⟨ea, tb, rfl, _⟩ := h
    rfl
  · obtain ⟨ea, tb, rfl, e1, k⟩ := h
    refine ⟨_, pss_one (ps_expr (pe_cmeth T.aW (ok_winit T) hr (by rfl) T.mW T.bW passN (pa_cons (pv 0) (pa_cons pe_str pa_nil)))), ?_⟩
    exact ⟨_, rfl, ea, BC, tb, _, rfl, e1, T.kC, k⟩
theorem sc_sinit : FnScope ["self"] ["self"] (defScope s_sinit) := ⟨rfl, rfl, rfl, by decide +kernel, rfl, by decide +kernel, by decide +kernel⟩
theorem ok_sinit (T : Xs K mg W BC BS fW fC fS gW gC gS) : FnOk P w K mg base (CXE P w) 2 fS gS ["self"] (spInit BS "bad sign") := by
  refine T.FS.okN sc_sinit (fun vs H Q E h => ?_) (fun cdv A outer s H vs Q E hr h => ?_)
  · obtain ⟨ea, tb, rfl, _⟩ := h
    rfl
  · obtain ⟨ea, tb, rfl, e1, k⟩ := h
    refine ⟨_, pss_one (ps_expr (pe_cmeth T.aW (ok_winit T) hr (by rfl) T.mW T.bW passN (pa_cons (pv 0) (pa_cons pe_str pa_nil)))), ?_⟩
    exact ⟨_, rfl, ea, BS, tb, _, rfl, e1, T.kS, k⟩
def Ref (H : Hp) (E : XK) (C : Addr) (ww : Str) : Prop := ∀ dx H0, Same H H0 → H0 dx = some (.xd [("word", .str ww)]) → E (.ref C) (some dx) H0
theorem Ref.same {H H' : Hp} {E : XK} {C : Addr} {ww : Str} (r : Ref H E C ww) (s : Same H H') : Ref H' E C ww := fun dx H0 s0 e => r dx H0 (s.trans' s0) e
theorem Ref.out {H : Hp} {E : XK} {C ea dx : Addr} {o u : HO} {ww : Str} (r : Ref H E C ww) (he : H ea = none) (hd : upd H ea o dx = none) :
    E (.ref C) (some dx) fun b => if b = ea then none else upd (upd (upd H ea o) ea u) dx (.xd [("word", .str ww)]) b := by
  have ne : dx ≠ ea := fun z => by rw [z, upd_same] at hd; cases hd
  rw [upd_ne ne] at hd
  refine r dx _ (fun b v e => ?_) ?_
  · rw [if_neg (ne_of_none e he), upd_ne (ne_of_none e hd), upd_ne (ne_of_none e he), upd_ne (ne_of_none e he)]
    exact e
  · rw [if_neg ne, upd_same]
def okQ (q : Int) : Prop := 1 ≤ q ∧ q ≤ 12
def spCheck (BC : Addr) : Sp := fun vs H Q E => ∃ q : Int, vs = [.int q] ∧ ((okQ q ∧ Q .non H) ∨ (¬ okQ q ∧ Ref H E BC "bad count"))
theorem sc_ccount : FnScope ["questions"] ["questions"] (defScope s_ccount) := ⟨rfl, rfl, rfl, by decide +kernel, rfl, by decide +kernel, by decide +kernel⟩
theorem ok_ccount {f : Addr} {fd : FuncData} (D : Df K mg "check_count" s_ccount ["questions"] f fd) (T : Xs K mg W BC BS fW fC fS gW gC gS) : FnOk P w K mg base (CXE P w) 4 f fd ["questions"] (spCheck BC) := by
  refine D.F.okE sc_ccount (fun vs H Q E h => ?_) (fun cdv A outer s H vs Q E hr h => ?_)
  · obtain ⟨q, rfl, _⟩ := h
    rfl
  · obtain ⟨q, rfl, k⟩ := h
    obtain ⟨t, mQ⟩ := T.mQ
    refine ⟨_, pss_one (ps_if (PW.pt (pw_or (pt_cmpR op_lt (pv 0) pe_int (nomark _)) (pw_or1 (pt_cmpR op_gt (pv 0) (pe_glob (v := .int 12) (by rfl) mQ ⟨t, rfl⟩) (nomark _)))))
      (pss_one (ps_raise rfl passE (pe_xmake0 T.kC T.iC (ok_cinit T) hr (by rfl) T.mC T.bC passE))) pss_nil), ?_⟩
    have bad : ¬ okQ q → ∀ ea, H ea = none → spInit BC "bad count" [.ref ea] (upd H ea (XO BC none .none ea)) (fun v H2 => v = .non ∧ ∃ ea' C dx, V.ref ea = .ref ea' ∧ H2 ea' = some (XO C (some dx) .none ea') ∧ XKl K C ∧ E (.ref C) (some dx) (fun b => if b = ea' then none else H2 b)) E := fun nq ea he => by
      have r : Ref H E BC "bad count" := k.elim (fun z => absurd z.1 nq) (·.2)
      refine ⟨ea, .none, rfl, upd_same, fun dx hd => ⟨rfl, ea, BC, dx, rfl, ?_, T.kC, r.out he hd⟩⟩
      rw [upd_ne (fun z => by rw [← z, upd_same] at hd; cases hd), upd_same]
    refine ⟨_, rfl, _, _, rfl, rfl, _, rfl, ite2 (fun z => ?_) (fun z => ?_)⟩
    · have z : q < 1 := of_decide_eq_true z
      exact iteT (bad (fun y => absurd z (by have := y.1; omega)))
    · have z : ¬ q < 1 := fun y => z (decide_eq_true y)
      refine ⟨_, rfl, _, _, rfl, rfl, _, rfl, ite2 (fun z2 => ?_) (fun z2 => ?_)⟩
      · have z2 : 12 < q := of_decide_eq_true z2
        exact bad (fun y => absurd z2 (by have := y.2; omega))
      · have z2 : ¬ 12 < q := fun y => z2 (decide_eq_true y)
        rcases k with ⟨_, k⟩ | ⟨n, _⟩
        · exact k
        · exact absurd ⟨by omega, by omega⟩ n
def spCSign (BS : Addr) : Sp := fun vs H Q E => ∃ z : Str, vs = [.str z] ∧ (((z = "y" ∨ z = "n") ∧ Q .non H) ∨ (¬ (z = "y" ∨ z = "n") ∧ Ref H E BS "bad sign"))
theorem sc_csign : FnScope ["sign"] ["sign"] (defScope s_csign) := ⟨rfl, rfl, rfl, by decide +kernel, rfl, by decide +kernel, by decide +kernel⟩
theorem ne_str {x y : Str} (h : decide (V.str x = V.str y) = false) : x ≠ y := fun z => by rw [z] at h; simp at h
theorem ok_csign {f : Addr} {fd : FuncData} (D : Df K mg "check_sign" s_csign ["sign"] f fd) (T : Xs K mg W BC BS fW fC fS gW gC gS) : FnOk P w K mg base (CXE P w) 4 f fd ["sign"] (spCSign BS) := by
  refine D.F.okE sc_csign (fun vs H Q E h => ?_) (fun cdv A outer s H vs Q E hr h => ?_)
  · obtain ⟨q, rfl, _⟩ := h
    rfl
  · obtain ⟨q, rfl, k⟩ := h
    refine ⟨_, pss_one (ps_if (PW.pt (pw_and (pt_cmpR op_ne (pv 0) pe_str (nomark _)) (pw_and1 (pt_cmpR op_ne (pv 0) pe_str (nomark _)))))
      (pss_one (ps_raise rfl passE (pe_xmake0 T.kS T.iS (ok_sinit T) hr (by rfl) T.mS T.bS passE))) pss_nil), ?_⟩
    have good : q = "y" ∨ q = "n" → Q .non H := fun z => k.elim (·.2) fun y => absurd z y.1
    refine ⟨_, rfl, rfl, _, rfl, ite2 (fun z => ?_) (fun z => ?_)⟩
    · refine ⟨_, rfl, rfl, _, rfl, ite2 (fun z2 => ?_) (fun z2 => ?_)⟩
      · intro ea he
        have z : (!decide (V.str q = V.str "y")) = true := z
        have z2 : (!decide (V.str q = V.str "n")) = true := z2
        have n : ¬ (q = "y" ∨ q = "n") := fun y => y.elim (fun y => by rw [y] at z; simp at z) fun y => by rw [y] at z2; simp at z2
        have r : Ref H E BS "bad sign" := k.elim (fun z => absurd z.1 n) (·.2)
        refine ⟨ea, .none, rfl, upd_same, fun dx hd => ⟨rfl, ea, BS, dx, rfl, ?_, T.kS, r.out he hd⟩⟩
        rw [upd_ne (fun z => by rw [← z, upd_same] at hd; cases hd), upd_same]
      · have z2 : ¬ (!decide (V.str q = V.str "n")) = true := z2
        refine good (.inr ?_)
        have : decide (V.str q = V.str "n") = true := by simpa using z2
        have := of_decide_eq_true this
        injection this
    · have z : ¬ (!decide (V.str q = V.str "y")) = true := z
      refine iteF (good (.inl ?_))
      have : decide (V.str q = V.str "y") = true := by simpa using z
      have := of_decide_eq_true this
      injection this
end
end K01
set_option Elab.async false
set_option linter.all false
set_option maxRecDepth 100000
set_option maxHeartbeats 1000000
namespace K01
open PySem L2
abbrev s_other : Stmt := top 10
abbrev s_isrow : Stmt := top 11
abbrev s_ispat : Stmt := top 12
abbrev s_only : Stmt := top 13
abbrev s_isname : Stmt := top 14
abbrev s_letter : Stmt := top 15
abbrev s_figure : Stmt := top 16
abbrev s_of : Stmt := top 24
section
variable {P : Program} {w : World} {K : PySem.W.Frag} {mg : Str → Option Value} {base : Heap} {W BC BS fW fC fS : Addr} {gW gC gS : FuncData}
theorem small_tx (n : Nat) (c : Nat → Nat) (h : n ≤ 1000) : (tx n c).length ≤ sizeLine := by rw [tx_len]; exact Nat.le_trans h (by decide)
theorem small_rng (n : Nat) {α : Type} (f : Nat → α) (h : n ≤ 1000) : ((List.range n).map f).length < sizeLine := by rw [List.length_map, List.length_range]; exact Nat.lt_of_le_of_lt h (by decide)
theorem map_snoc {α : Type} (f : Nat → α) (i : Nat) : (List.range i).map f ++ [f i] = (List.range (i + 1)).map f := by rw [List.range_succ, List.map_append]; rfl
theorem map_bl (f : Nat → Bool) (n : Nat) : ((List.range n).map fun j => V.bl (f j)) = ((List.range n).map f).map V.bl := by rw [List.map_map]; rfl
def allN (n : Nat) (f : Nat → Bool) : Bool := ((List.range n).map f).all id
theorem allN_congr {n : Nat} {f g : Nat → Bool} (h : ∀ i, i < n → f i = g i) : allN n f = allN n g := by
  unfold allN
  rw [List.map_congr_left fun i hi => h i (List.mem_range.mp hi)]
def inS (z : Str) (d : Nat) : Bool := decide (d ∈ z.cps.toList)
def spOnly : Sp := fun vs H Q _ => ∃ (n : Nat) (c : Nat → Nat) (z : Str), vs = [.str (tx n c), .str z] ∧ n ≤ 1000 ∧ ∀ H', Same H H' → Q (.bl (allN n fun i => inS z (c i))) H'
abbrev Pon : List Str := ["text", "signs"]
theorem sc_only : FnScope Pon Pon (defScope s_only) := ⟨rfl, rfl, rfl, by decide +kernel, rfl, by decide +kernel, by decide +kernel⟩
theorem nd_on : (["sign", "signs"] : List Str).Nodup := by decide +kernel
theorem ok_only {f : Addr} {fd : FuncData} (D : Df K mg "only_of" s_only Pon f fd) (B : Bt mg) : FnOk P w K mg base (CXE P w) 1 f fd Pon spOnly := by
  refine D.F.okN sc_only (fun vs H Q E h => ?_) (fun cdv A outer s H vs Q E hr h => ?_)
  · obtain ⟨n, c, z, rfl, _⟩ := h
    rfl
  · obtain ⟨n, c, z, rfl, hn, q⟩ := h
    refine ⟨_, pss_one (ps_ret (pe_callB (call_all rfl) (by rfl) B.all (by rfl) (pa_cons
      (pe_comp (N' := ["sign", "signs"]) (fm := [none, some 1]) rfl ⟨rfl, by decide +kernel, by decide +kernel, rfl, rfl, rfl⟩
        (pi_str (pv 0)) (fun _ _ _ _ => pg_name (i := 0) nd_on rfl (Or.inl rfl)) (fun _ _ _ _ => pif_nil)
        (fun _ _ _ _ => pe_cmpR op_in_str (pv 0) (pv 1) (by rfl))) pa_nil))), ?_⟩
    refine ⟨_, rfl, _, rfl, fun p hp => ?_⟩
    refine blk_str (fun i σ H2 => ∃ v, σ = [v, some (.str z)] ∧ Same H H2 ∧ H2 p = some (.lst ((List.range i).map fun j => V.bl (inS z (c j))))) ⟨none, rfl, Same.new hp, upd_same⟩ ?_ ?_
    · rintro i σ H2 hi ⟨v, rfl, s2, e2⟩
      rw [tx_len] at hi
      rw [sg_tx hi]
      refine turn_all ⟨_, rfl, _, rfl, _, _, rfl, rfl, _, e2, small_rng _ _ (by omega), _, rfl, Same.grow hp s2, ?_⟩
      rw [upd_same, ← map_snoc, in_one]
      rfl
    · rintro σ H2 ⟨v, rfl, s2, e2⟩
      rw [tx_len, map_bl] at e2
      exact ⟨p, _, rfl, SqL.of e2, q H2 s2⟩
abbrev Pof : List Str := ["_law_text_here", "_law_signs_here"]
theorem sc_of : FnScope Pof Pof (defScope s_of) := ⟨rfl, rfl, rfl, by decide +kernel, rfl, by decide +kernel, by decide +kernel⟩
theorem nd_of : (["_law_sign", "_law_signs_here"] : List Str).Nodup := by decide +kernel
theorem ok_of {f : Addr} {fd : FuncData} (D : Df K mg "_law_of" s_of Pof f fd) (B : Bt mg) : FnOk P w K mg base (CXE P w) 1 f fd Pof spOnly := by
  refine D.F.okN sc_of (fun vs H Q E h => ?_) (fun cdv A outer s H vs Q E hr h => ?_)
  · obtain ⟨n, c, z, rfl, _⟩ := h
    rfl
  · obtain ⟨n, c, z, rfl, hn, q⟩ := h
    refine ⟨_, pss_one (ps_ret (pe_callB (call_all rfl) (by rfl) B.all (by rfl) (pa_cons
      (pe_comp (N' := ["_law_sign", "_law_signs_here"]) (fm := [none, some 1]) rfl ⟨rfl, by decide +kernel, by decide +kernel, rfl, rfl, rfl⟩
        (pi_str (pv 0)) (fun _ _ _ _ => pg_name (i := 0) nd_of rfl (Or.inl rfl)) (fun _ _ _ _ => pif_nil)
        (fun _ _ _ _ => pe_cmpR op_in_str (pv 0) (pv 1) (by rfl))) pa_nil))), ?_⟩
    refine ⟨_, rfl, _, rfl, fun p hp => ?_⟩
    refine blk_str (fun i σ H2 => ∃ v, σ = [v, some (.str z)] ∧ Same H H2 ∧ H2 p = some (.lst ((List.range i).map fun j => V.bl (inS z (c j))))) ⟨none, rfl, Same.new hp, upd_same⟩ ?_ ?_
    · rintro i σ H2 hi ⟨v, rfl, s2, e2⟩
      rw [tx_len] at hi
      rw [sg_tx hi]
      refine turn_all ⟨_, rfl, _, rfl, _, _, rfl, rfl, _, e2, small_rng _ _ (by omega), _, rfl, Same.grow hp s2, ?_⟩
      rw [upd_same, ← map_snoc, in_one]
      rfl
    · rintro σ H2 ⟨v, rfl, s2, e2⟩
      rw [tx_len, map_bl] at e2
      exact ⟨p, _, rfl, SqL.of e2, q H2 s2⟩
def rowA (n : Nat) (c : Nat → Nat) (q : Int) (z : Str) : Bool := decide ((n : Int) = q) && allN n fun i => inS z (c i)
def spRow (BC : Addr) (z : Str) : Sp := fun vs H Q E => ∃ (n : Nat) (c : Nat → Nat) (q : Int), vs = [.str (tx n c), .int q] ∧ n ≤ 1000 ∧ ((okQ q ∧ ∀ H', Same H H' → Q (.bl (rowA n c q z)) H') ∨ (¬ okQ q ∧ Ref H E BC "bad count"))
abbrev Prow : List Str := ["row", "questions"]
theorem sc_isrow : FnScope Prow Prow (defScope s_isrow) := ⟨rfl, rfl, rfl, by decide +kernel, rfl, by decide +kernel, by decide +kernel⟩
theorem ok_isrow {f fc fo : Addr} {fd gc go : FuncData} (D : Df K mg "is_row" s_isrow Prow f fd) (Dc : Df K mg "check_count" s_ccount ["questions"] fc gc) (Do : Df K mg "only_of" s_only Pon fo go) (T : Xs K mg W BC BS fW fC fS gW gC gS) (B : Bt mg) : FnOk P w K mg base (CXE P w) 5 f fd Prow (spRow BC "ny") := by
  refine D.F.okE sc_isrow (fun vs H Q E h => ?_) (fun cdv A outer s H vs Q E hr h => ?_)
  · obtain ⟨n, c, q, rfl, _⟩ := h
    rfl
  · obtain ⟨n, c, q, rfl, hn, k⟩ := h
    obtain ⟨tS, mS⟩ := T.mG
    refine ⟨_, pss_cons (ps_expr (pe_fn Dc (ok_ccount Dc T) hr passE (pa_cons (pv 1) pa_nil)))
      (pss_one (ps_ret (pe_and (pe_cmpR op_eq (pe_callB call_len_str (by rfl) B.len PySem.boot_len (pa_cons (pv 0) pa_nil)) (pv 1) (nomark _)) (pe_one (pe_fn Do (ok_only Do B) (hr.mono (by decide)) passE (pa_cons (pv 0) (pa_cons (pe_glob (v := .str "ny") (by rfl) mS ⟨tS, rfl⟩) pa_nil))))))), ?_⟩
    refine ⟨_, rfl, q, rfl, ?_⟩
    rcases k with ⟨ok, k⟩ | ⟨no, k⟩
    · refine .inl ⟨ok, _, rfl, _, rfl, small_tx _ _ (by omega), _, rfl, rfl, _, rfl, ?_⟩
      rw [tx_len]
      have e : decide (V.int (n : Int) = V.int q) = decide ((n : Int) = q) := decide_eq_decide.mpr ⟨fun z => by injection z, fun z => by rw [z]⟩
      refine ite2 (fun z => ?_) (fun z => ?_)
      · have z : decide (V.int (n : Int) = V.int q) = true := z
        rw [e] at z
        refine ⟨_, rfl, n, c, "ny", rfl, hn, fun H' s' => ?_⟩
        have := k H' s'
        unfold rowA at this
        rw [z, Bool.true_and] at this
        exact this
      · have z : ¬ decide (V.int (n : Int) = V.int q) = true := z
        rw [e] at z
        have := k H (Same.refl H)
        unfold rowA at this
        rw [Bool.eq_false_iff.mpr z, Bool.false_and] at this
        exact this
    · exact .inr ⟨no, k⟩
abbrev Ppat : List Str := ["pattern", "questions"]
theorem sc_ispat : FnScope Ppat Ppat (defScope s_ispat) := ⟨rfl, rfl, rfl, by decide +kernel, rfl, by decide +kernel, by decide +kernel⟩
theorem ok_ispat {f fc fo : Addr} {fd gc go : FuncData} (D : Df K mg "is_pattern" s_ispat Ppat f fd) (Dc : Df K mg "check_count" s_ccount ["questions"] fc gc) (Do : Df K mg "only_of" s_only Pon fo go) (T : Xs K mg W BC BS fW fC fS gW gC gS) (B : Bt mg) : FnOk P w K mg base (CXE P w) 5 f fd Ppat (spRow BC "ny-") := by
  refine D.F.okE sc_ispat (fun vs H Q E h => ?_) (fun cdv A outer s H vs Q E hr h => ?_)
  · obtain ⟨n, c, q, rfl, _⟩ := h
    rfl
  · obtain ⟨n, c, q, rfl, hn, k⟩ := h
    obtain ⟨tS, mS⟩ := T.mG
    refine ⟨_, pss_cons (ps_expr (pe_fn Dc (ok_ccount Dc T) hr passE (pa_cons (pv 1) pa_nil)))
      (pss_one (ps_ret (pe_and (pe_cmpR op_eq (pe_callB call_len_str (by rfl) B.len PySem.boot_len (pa_cons (pv 0) pa_nil)) (pv 1) (nomark _)) (pe_one (pe_fn Do (ok_only Do B) (hr.mono (by decide)) passE (pa_cons (pv 0) (pa_cons (pe_op op_add_str (pe_glob (v := .str "ny") (by rfl) mS ⟨tS, rfl⟩) pe_str) pa_nil))))))), ?_⟩
    refine ⟨_, rfl, q, rfl, ?_⟩
    rcases k with ⟨ok, k⟩ | ⟨no, k⟩
    · refine .inl ⟨ok, _, rfl, _, rfl, small_tx _ _ (by omega), _, rfl, rfl, _, rfl, ?_⟩
      rw [tx_len]
      have e : decide (V.int (n : Int) = V.int q) = decide ((n : Int) = q) := decide_eq_decide.mpr ⟨fun z => by injection z, fun z => by rw [z]⟩
      refine ite2 (fun z => ?_) (fun z => ?_)
      · have z : decide (V.int (n : Int) = V.int q) = true := z
        rw [e] at z
        refine ⟨_, rfl, _, _, rfl, rfl, by decide, n, c, "ny-", rfl, hn, fun H' s' => ?_⟩
        have := k H' s'
        unfold rowA at this
        rw [z, Bool.true_and] at this
        exact this
      · have z : ¬ decide (V.int (n : Int) = V.int q) = true := z
        rw [e] at z
        have := k H (Same.refl H)
        unfold rowA at this
        rw [Bool.eq_false_iff.mpr z, Bool.false_and] at this
        exact this
    · exact .inr ⟨no, k⟩
end
end K01
set_option Elab.async false
set_option linter.all false
set_option maxRecDepth 100000
set_option maxHeartbeats 1000000
namespace K01
open PySem L2
section
variable {P : Program} {w : World} {K : PySem.W.Frag} {mg : Str → Option Value} {base : Heap} {W BC BS fW fC fS : Addr} {gW gC gS : FuncData}
def betw (a b d : Nat) : Bool := decide (a ≤ d) && decide (d ≤ b)
def spBetw (a b : Nat) : Sp := fun vs H Q _ => ∃ d, vs = [s1 d] ∧ Q (.bl (betw a b d)) H
theorem le_neg (c d : Nat) : (!(decide (([c] : List Nat) < [d]))) = decide (d ≤ c) := by
  rw [lt_one, Bool.eq_iff_iff, Bool.not_eq_true', decide_eq_false_iff_not, decide_eq_true_iff]
  omega
theorem sc_letter : FnScope ["sign"] ["sign"] (defScope s_letter) := ⟨rfl, rfl, rfl, by decide +kernel, rfl, by decide +kernel, by decide +kernel⟩
theorem ok_letter {f : Addr} {fd : FuncData} (D : Df K mg "is_letter" s_letter ["sign"] f fd) : FnOk P w K mg base (CXE P w) 1 f fd ["sign"] (spBetw 97 122) := by
  refine D.F.okN sc_letter (fun vs H Q E h => ?_) (fun cdv A outer s H vs Q E hr h => ?_)
  · obtain ⟨d, rfl, _⟩ := h
    rfl
  · obtain ⟨d, rfl, q⟩ := h
    refine ⟨_, pss_one (ps_ret (pe_chain op_le_str op_le_str pe_str (pv 0) pe_str)), ?_⟩
    refine ⟨_, rfl, _, _, rfl, rfl, _, rfl, ?_⟩
    have e1 : (!(decide (([d] : List Nat) < [97]))) = decide (97 ≤ d) := le_neg d 97
    have e2 : (!(decide (([122] : List Nat) < [d]))) = decide (d ≤ 122) := le_neg 122 d
    refine ite2 (fun z => ?_) (fun z => ?_)
    · have z : (!(decide (([d] : List Nat) < [97]))) = true := z
      rw [e1] at z
      refine ⟨_, _, rfl, rfl, ?_⟩
      show Q (.bl (!(decide (([122] : List Nat) < [d])))) H
      rw [e2]
      unfold betw at q
      rw [z, Bool.true_and] at q
      exact q
    · have z : ¬ (!(decide (([d] : List Nat) < [97]))) = true := z
      rw [e1] at z
      unfold betw at q
      rw [Bool.eq_false_iff.mpr z, Bool.false_and] at q
      exact q
theorem sc_figure : FnScope ["sign"] ["sign"] (defScope s_figure) := ⟨rfl, rfl, rfl, by decide +kernel, rfl, by decide +kernel, by decide +kernel⟩
theorem ok_figure {f : Addr} {fd : FuncData} (D : Df K mg "is_figure" s_figure ["sign"] f fd) : FnOk P w K mg base (CXE P w) 1 f fd ["sign"] (spBetw 48 57) := by
  refine D.F.okN sc_figure (fun vs H Q E h => ?_) (fun cdv A outer s H vs Q E hr h => ?_)
  · obtain ⟨d, rfl, _⟩ := h
    rfl
  · obtain ⟨d, rfl, q⟩ := h
    refine ⟨_, pss_one (ps_ret (pe_chain op_le_str op_le_str pe_str (pv 0) pe_str)), ?_⟩
    refine ⟨_, rfl, _, _, rfl, rfl, _, rfl, ?_⟩
    have e1 : (!(decide (([d] : List Nat) < [48]))) = decide (48 ≤ d) := le_neg d 48
    have e2 : (!(decide (([57] : List Nat) < [d]))) = decide (d ≤ 57) := le_neg 57 d
    refine ite2 (fun z => ?_) (fun z => ?_)
    · have z : (!(decide (([d] : List Nat) < [48]))) = true := z
      rw [e1] at z
      refine ⟨_, _, rfl, rfl, ?_⟩
      show Q (.bl (!(decide (([57] : List Nat) < [d])))) H
      rw [e2]
      unfold betw at q
      rw [z, Bool.true_and] at q
      exact q
    · have z : ¬ (!(decide (([d] : List Nat) < [48]))) = true := z
      rw [e1] at z
      unfold betw at q
      rw [Bool.eq_false_iff.mpr z, Bool.false_and] at q
      exact q
def signB (d : Nat) : Bool := betw 97 122 d || betw 48 57 d
def nameA (n : Nat) (c : Nat → Nat) : Bool := decide (1 ≤ n ∧ n ≤ 12) && (betw 97 122 (c 0) && allN n fun i => signB (c i))
def spName : Sp := fun vs H Q _ => ∃ (n : Nat) (c : Nat → Nat), vs = [.str (tx n c)] ∧ n ≤ 1000 ∧ ∀ H', Same H H' → Q (.bl (nameA n c)) H'
theorem sc_isname : FnScope ["name"] ["name"] (defScope s_isname) := ⟨rfl, rfl, rfl, by decide +kernel, rfl, by decide +kernel, by decide +kernel⟩
theorem nd_s : (["sign"] : List Str).Nodup := by decide +kernel
theorem ok_isname {f fl fg : Addr} {fd gl gg : FuncData} (D : Df K mg "is_name" s_isname ["name"] f fd) (Dl : Df K mg "is_letter" s_letter ["sign"] fl gl) (Dg : Df K mg "is_figure" s_figure ["sign"] fg gg) (T : Xs K mg W BC BS fW fC fS gW gC gS) (B : Bt mg) : FnOk P w K mg base (CXE P w) 2 f fd ["name"] spName := by
  refine D.F.okN sc_isname (fun vs H Q E h => ?_) (fun cdv A outer s H vs Q E hr h => ?_)
  · obtain ⟨n, c, rfl, _⟩ := h
    rfl
  · obtain ⟨n, c, rfl, hn, k⟩ := h
    obtain ⟨t, mN⟩ := T.mN
    refine ⟨_, pss_cons (ps_if (PW.pt (pw_or (pt_cmpR op_lt (pe_callB call_len_str (by rfl) B.len PySem.boot_len (pa_cons (pv 0) pa_nil)) pe_int (nomark _)) (pw_or1 (pt_cmpR op_gt (pe_callB call_len_str (by rfl) B.len PySem.boot_len (pa_cons (pv 0) pa_nil)) (pe_glob (v := .int 12) (by rfl) mN ⟨t, rfl⟩) (nomark _)))))
        (pss_one (ps_ret pe_bl)) pss_nil)
      (pss_one (ps_ret (pe_and (pe_fn Dl (ok_letter Dl) hr passN (pa_cons (pe_ix ix_str (pv 0) pe_int (fun _ _ => rfl)) pa_nil)) (pe_one (pe_callB (call_all rfl) (by rfl) B.all (by rfl) (pa_cons
        (pe_comp (N' := ["sign"]) (fm := [none]) rfl ⟨rfl, by decide +kernel, by decide +kernel, rfl, rfl, rfl⟩
          (pi_str (pv 0)) (fun _ _ _ _ => pg_name (i := 0) nd_s rfl (Or.inl rfl)) (fun _ _ _ _ => pif_nil)
          (fun _ _ _ _ => pe_or (pe_fn Dl (ok_letter Dl) hr passN (pa_cons (pv 0) pa_nil)) (pe_one (pe_fn Dg (ok_figure Dg) hr passN (pa_cons (pv 0) pa_nil))))) pa_nil)))))), ?_⟩
    have no : ¬ (1 ≤ n ∧ n ≤ 12) → Q (.bl false) H := fun z => by
      have := k H (Same.refl H)
      unfold nameA at this
      rw [decide_eq_false z, Bool.false_and] at this
      exact this
    have en : ((tx n c).length : Int) = (n : Int) := by rw [tx_len]
    refine ⟨_, rfl, _, rfl, small_tx _ _ (by omega), _, _, rfl, rfl, _, rfl, ite2 (fun z => ?_) (fun z => ?_)⟩
    · have z : ((tx n c).length : Int) < 1 := of_decide_eq_true z
      rw [en] at z
      exact iteT (no (by omega))
    · have z : ¬ ((tx n c).length : Int) < 1 := fun y => z (decide_eq_true y)
      rw [en] at z
      refine ⟨_, rfl, _, rfl, small_tx _ _ (by omega), _, _, rfl, rfl, _, rfl, ite2 (fun z2 => ?_) (fun z2 => ?_)⟩
      · have z2 : 12 < ((tx n c).length : Int) := of_decide_eq_true z2
        rw [en] at z2
        exact no (by omega)
      · have z2 : ¬ 12 < ((tx n c).length : Int) := fun y => z2 (decide_eq_true y)
        rw [en] at z2
        have k' : ∀ H', Same H H' → Q (.bl (betw 97 122 (c 0) && allN n fun i => signB (c i))) H' := fun H' s' => by
          have := k H' s'
          unfold nameA at this
          rw [decide_eq_true (show 1 ≤ n ∧ n ≤ 12 by omega), Bool.true_and] at this
          exact this
        refine ⟨_, rfl, _, _, _, rfl, rfl, small_tx _ _ (by omega), tx_at (i := 0) (by omega), c 0, rfl, _, rfl, ite2 (fun z3 => ?_) (fun z3 => ?_)⟩
        · rw [z3] at k'
          simp only [Bool.true_and] at k'
          refine ⟨_, rfl, _, rfl, fun p hp => ?_⟩
          refine blk_str (fun i σ H2 => ∃ v, σ = [v] ∧ Same H H2 ∧ H2 p = some (.lst ((List.range i).map fun j => V.bl (signB (c j))))) ⟨none, rfl, Same.new hp, upd_same⟩ ?_ ?_
          · rintro i σ H2 hi ⟨v, rfl, s2, e2⟩
            rw [tx_len] at hi
            rw [sg_tx hi]
            refine turn_all ⟨_, rfl, c i, rfl, _, rfl, ite2 (fun y => ?_) (fun y => ?_)⟩
            · refine ⟨_, e2, small_rng _ _ (by omega), _, rfl, Same.grow hp s2, ?_⟩
              rw [upd_same, ← map_snoc, show signB (c i) = true by unfold signB; rw [y, Bool.true_or]]
            · refine ⟨_, rfl, c i, rfl, _, e2, small_rng _ _ (by omega), _, rfl, Same.grow hp s2, ?_⟩
              rw [upd_same, ← map_snoc, show signB (c i) = betw 48 57 (c i) by unfold signB; rw [Bool.eq_false_iff.mpr y, Bool.false_or]]
          · rintro σ H2 ⟨v, rfl, s2, e2⟩
            rw [tx_len, map_bl] at e2
            exact ⟨p, _, rfl, SqL.of e2, k' H2 s2⟩
        · rw [Bool.eq_false_iff.mpr z3] at k'
          exact k' H (Same.refl H)
def spOther (BS : Addr) : Sp := fun vs H Q E => ∃ z : Str, vs = [.str z] ∧ ((z = "y" ∧ Q (.str "n") H) ∨ (z = "n" ∧ Q (.str "y") H) ∨ (¬ (z = "y" ∨ z = "n") ∧ Ref H E BS "bad sign"))
theorem sc_other : FnScope ["sign"] ["sign"] (defScope s_other) := ⟨rfl, rfl, rfl, by decide +kernel, rfl, by decide +kernel, by decide +kernel⟩
theorem ok_other {f fc : Addr} {fd gc : FuncData} (D : Df K mg "other" s_other ["sign"] f fd) (Dc : Df K mg "check_sign" s_csign ["sign"] fc gc) (T : Xs K mg W BC BS fW fC fS gW gC gS) : FnOk P w K mg base (CXE P w) 5 f fd ["sign"] (spOther BS) := by
  refine D.F.okE sc_other (fun vs H Q E h => ?_) (fun cdv A outer s H vs Q E hr h => ?_)
  · obtain ⟨z, rfl, _⟩ := h
    rfl
  · obtain ⟨z, rfl, k⟩ := h
    refine ⟨_, pss_cons (ps_expr (pe_fn Dc (ok_csign Dc T) hr passE (pa_cons (pv 0) pa_nil))) (pss_one (ps_ret (pe_ifExp (pt_cmpR op_eq (pv 0) pe_str (nomark _)) pe_str pe_str))), ?_⟩
    refine ⟨_, rfl, z, rfl, ?_⟩
    rcases k with ⟨rfl, k⟩ | ⟨rfl, k⟩ | ⟨n, k⟩
    · exact .inl ⟨.inl rfl, _, rfl, rfl, _, rfl, iteT k⟩
    · refine .inl ⟨.inr rfl, _, rfl, rfl, _, rfl, ?_⟩
      refine ite2 (fun y => ?_) (fun _ => k)
      have y : decide (V.str "n" = V.str "y") = true := y
      have y := of_decide_eq_true y
      have y : ("n" : Str) = "y" := by injection y
      exact absurd y (by decide)
    · exact .inr ⟨n, k⟩
end
end K01
set_option Elab.async false
set_option linter.all false
set_option maxRecDepth 100000
set_option maxHeartbeats 1000000
namespace K01
open PySem L2
abbrev s_word : Stmt := top 21
section
variable {P : Program} {w : World} {K : PySem.W.Frag} {mg : Str → Option Value} {base : Heap} {W BC BS fW fC fS : Addr} {gW gC gS : FuncData}
abbrev Nw : List Str := ["_law_asked", "e"]
theorem sc_word : FnScope Nw ["_law_asked"] (defScope s_word) := ⟨rfl, rfl, rfl, by decide +kernel, rfl, by decide +kernel, by decide +kernel⟩
theorem len_le {n : Nat} (h : n ≤ 100) : n ≤ sizeLine := Nat.le_trans h (by decide)
theorem ok_word {fw f : Addr} {gw fdl : FuncData} {k : Nat} {spl : Sp} (D : Df K mg "_law_word" s_word ["_law_asked"] fw gw) (T : Xs K mg W BC BS fW fC fS gW gC gS) (ho : base.get? f = some { cls := .type "function", data := .func fdl }) (hb : Binds K fdl [] [])
    (G : FnOk P w K mg base (CXE P w) k f fdl [] spl) : FnOk P w K mg base (CXE P w) (k + 1) fw gw ["_law_asked"] (spWord K W f spl) := by
  refine D.F.okN sc_word (fun vs H Q E h => ?_) (fun cdv A outer s H vs Q E hr h => ?_)
  · obtain ⟨rfl, _⟩ := h
    rfl
  · obtain ⟨rfl, h⟩ := h
    refine ⟨_, pss_one (ps_try (i := 1) (th := tRet (tTup (tCons (tXGet K (tVar 1) "word") tNil))) (Eh := wordE K W Q) (W := W) rfl rfl sc_word.nd rfl rfl (by rfl) T.mW T.kW
      (fun pins Ey hp => pss_one (ps_ret (pe_tup (pa_cons pe_str (pa_cons (pe_callL (i := 0) G hr ho hb hp rfl (Or.inl rfl)) pa_nil)))))
      (fun ea => by exact pss_one (ps_ret (pe_tup (pa_cons (pe_xget (pv 1)) pa_nil))))), ?_⟩
    refine ⟨⟨rfl, h⟩, fun C dx H0 ea T' H' he sx n0 ex => ?_⟩
    obtain ⟨Ca, dx', ww, e1, e2, e3, xs, xk, kk⟩ := he
    cases e1
    cases e2
    have ne : dx ≠ ea := ne_of_none e3 n0
    refine ⟨xs, _, rfl, ea, C, dx, _, _, .str ww, rfl, ex, sx dx _ ne e3, rfl, xk, xk.nw, len_le (show 1 ≤ 100 by decide), fun r hr' => ?_⟩
    exact kk H' r (fun b o e => sx b o (ne_of_none e n0) e) hr'
end
end K01
set_option Elab.async false
set_option linter.all false
set_option maxRecDepth 100000
set_option maxHeartbeats 1000000
namespace K01
open PySem L2
abbrev s_signs : Stmt := top 22
abbrev s_text : Stmt := top 23
section
variable {P : Program} {w : World} {K : PySem.W.Frag} {mg : Str → Option Value} {base : Heap} {W BC BS fW fC fS : Addr} {gW gC gS : FuncData}
def spSigns : Sp := fun vs H Q _ => ∃ k : Int, vs = [.int k] ∧ 0 ≤ k ∧ k < 7 ∧ ∀ (z : Str) H', 0 < z.length → z.length ≤ 200 → (k = 5 → 95 ≤ z.length) → Same H H' → Q (.str z) H'
abbrev Nsg : List Str := ["_law_kind", "_law_small", "_law_some"]
theorem sc_signs : FnScope Nsg ["_law_kind"] (defScope s_signs) := ⟨rfl, rfl, rfl, by decide +kernel, rfl, by decide +kernel, by decide +kernel⟩
theorem seven {α : Type} {a b c d e f g : α} {p : Int → α → Prop} (k : Int) (h0 : 0 ≤ k) (h7 : k < 7) (ha : p 0 a) (hb : p 1 b) (hc : p 2 c) (hd : p 3 d) (he : p 4 e) (hf : p 5 f) (hg : p 6 g) : ∃ x, atI [a, b, c, d, e, f, g] k = some x ∧ p k x := by
  obtain ⟨n, rfl⟩ : ∃ n : Nat, k = n := ⟨k.toNat, by omega⟩
  match n, (show n < 7 by omega) with
  | 0, _ => exact ⟨_, rfl, ha⟩
  | 1, _ => exact ⟨_, rfl, hb⟩
  | 2, _ => exact ⟨_, rfl, hc⟩
  | 3, _ => exact ⟨_, rfl, hd⟩
  | 4, _ => exact ⟨_, rfl, he⟩
  | 5, _ => exact ⟨_, rfl, hf⟩
  | 6, _ => exact ⟨_, rfl, hg⟩
theorem len_app (x y : Str) : (x ++ y).length = x.length + y.length := by show (x.cps ++ y.cps).size = _; rw [Array.size_append]; rfl
theorem ok_signs {f : Addr} {fd : FuncData} (D : Df K mg "_law_signs" s_signs ["_law_kind"] f fd) (B : Bt mg) : FnOk P w K mg base (CXE P w) 1 f fd ["_law_kind"] spSigns := by
  refine D.F.okN sc_signs (fun vs H Q E h => ?_) (fun cdv A outer s H vs Q E hr h => ?_)
  · obtain ⟨k, rfl, _⟩ := h
    rfl
  · obtain ⟨k, rfl, h0, h7, q⟩ := h
    refine ⟨_, pss_cons (ps_set (i := 1) sc_signs.nd rfl (Or.inl rfl) pe_str)
      (pss_cons (ps_set (i := 2) sc_signs.nd rfl (Or.inl rfl) pe_str)
      (pss_one (ps_ret (pe_ix ix_list (pe_lst (pa_cons pe_str (pa_cons pe_str (pa_cons (pv 1) (pa_cons pe_str (pa_cons (pv 1) (pa_cons (pe_op op_add_str (pe_op op_add_str (pv 2) (pv 1)) pe_str) (pa_cons pe_str pa_nil)))))))) (pv 0) (fun _ _ => rfl))))), ?_⟩
    refine ⟨_, rfl, _, rfl, _, rfl, _, rfl, _, _, rfl, rfl, ?_, _, _, rfl, rfl, ?_, ?_⟩
    · exact Nat.le_trans (show _ ≤ 200 by decide +kernel) (by decide)
    · rw [len_app]
      exact Nat.le_trans (show _ ≤ 200 by decide +kernel) (by decide)
    refine ⟨len_le (show 7 ≤ 100 by decide), fun p hp => ⟨_, rfl, ?_⟩⟩
    obtain ⟨x, ex, z, rfl, l0, l2, l5⟩ := seven (p := fun k x => ∃ z : Str, x = V.str z ∧ 0 < z.length ∧ z.length ≤ 200 ∧ (k = 5 → 95 ≤ z.length)) k h0 h7
      (a := V.str "yn") (b := V.str "yn-") (c := V.str "abcdefghijklmnopqrstuvwxyz0123456789") (d := V.str "y-n") (e := V.str "abcdefghijklmnopqrstuvwxyz0123456789")
      (f := V.str ((" !\"#$&'()*+,-./0123456789:;<=>?@ABCDEFGHIJKLMNOPQRSTUVWXYZ[\\]^_`" : Str) ++ ("abcdefghijklmnopqrstuvwxyz0123456789" : Str) ++ ("{|}~\n" : Str))) (g := V.str "ny")
      ⟨_, rfl, by decide +kernel, by decide +kernel, fun z => absurd z (by decide)⟩ ⟨_, rfl, by decide +kernel, by decide +kernel, fun z => absurd z (by decide)⟩ ⟨_, rfl, by decide +kernel, by decide +kernel, fun z => absurd z (by decide)⟩
      ⟨_, rfl, by decide +kernel, by decide +kernel, fun z => absurd z (by decide)⟩ ⟨_, rfl, by decide +kernel, by decide +kernel, fun z => absurd z (by decide)⟩ ⟨_, rfl, by decide +kernel, by decide +kernel, fun _ => by decide +kernel⟩ ⟨_, rfl, by decide +kernel, by decide +kernel, fun z => absurd z (by decide)⟩
    exact ⟨p, _, _, _, rfl, rfl, SqL.of upd_same, ex, q z _ l0 l2 l5 (Same.new hp)⟩
end
end K01
set_option Elab.async false
set_option linter.all false
set_option maxRecDepth 100000
set_option maxHeartbeats 1000000
namespace K01
open PySem L2
section
variable {P : Program} {w : World} {K : PySem.W.Frag} {mg : Str → Option Value} {base : Heap} {W BC BS fW fC fS : Addr} {gW gC gS : FuncData}
abbrev Pdr : List Str := ["_law_cell_here", "_law_parts"]
abbrev Pte : List Str := ["_law_script", "_law_kind", "_law_size"]
abbrev Nte : List Str := ["_law_script", "_law_kind", "_law_size", "_law_signs_here", "_law_text_here", "_law_k", "_law_drawn"]
theorem sc_text : FnScope Nte Pte (defScope s_text) := ⟨rfl, rfl, rfl, by decide +kernel, rfl, by decide +kernel, by decide +kernel⟩
def spText (K : PySem.W.Frag) : Sp := fun vs H Q _ => ∃ (a : Addr) (ns : List Int) (k : Int) (n : Nat), vs = [.ref a, .int k, .int n] ∧ SqL K H a (ns.map V.int) ∧ 0 ≤ k ∧ k < 7 ∧ n ≤ 14 ∧ ∀ (z : Str) H', z.length ≤ n → Same H H' → Q (.str z) H'
theorem at_str (z : Str) (i : Int) (h0 : 0 ≤ i) (h : i < z.length) : ∃ d, atI z.cps.toList i = some d := by
  rw [all_tx z]
  rw [all_tx z, tx_len] at h
  exact ⟨_, tx_atI h0 h⟩
theorem ok_text {f fr fc fs : Addr} {fd gr gc gs : FuncData} (D : Df K mg "_law_text" s_text Pte f fd) (Dr : Df K mg "_law_draws" s_draws Pdr fr gr) (Dc : Df K mg "_law_cell" s_cell ["_law_script", "_law_k"] fc gc) (Ds : Df K mg "_law_signs" s_signs ["_law_kind"] fs gs) (B : Bt mg) : FnOk P w K mg base (CXE P w) 2 f fd Pte (spText K) := by
  refine D.F.okN sc_text (fun vs H Q E h => ?_) (fun cdv A outer s H vs Q E hr h => ?_)
  · obtain ⟨a, ns, k, n, rfl, _⟩ := h
    rfl
  · obtain ⟨a, ns, k, n, rfl, hS, h0, h7, hn, q⟩ := h
    refine ⟨_, pss_cons (ps_set (i := 3) sc_text.nd rfl (Or.inl rfl) (pe_fn Ds (ok_signs Ds B) hr passN (pa_cons (pv 1) pa_nil)))
      (pss_cons (ps_set (i := 4) sc_text.nd rfl (Or.inl rfl) pe_str)
      (pss_cons (ps_for PassesOwn.never rfl (pi_range1 (by rfl) B.range (pa_cons (pv 2) pa_nil)) (pg_name (i := 5) sc_text.nd rfl (Or.inl rfl))
        (pss_cons (ps_set (i := 6) sc_text.nd rfl (Or.inl rfl) (pe_fn Dr (ok_draws Dr B) hr passN (pa_cons (pe_fn Dc (ok_cell Dc B) hr passN (pa_cons (pv 0) (pa_cons (pe_op op_add pe_int (pv 5)) pa_nil))) (pa_cons (pe_lst (pa_cons pe_int (pa_cons pe_int pa_nil))) pa_nil))))
        (pss_cons (ps_set (i := 4) sc_text.nd rfl (Or.inl rfl) (pe_op op_add_str (pv 4) (pe_ix ix_str (pv 3) (pe_op op_mod (pe_ix ix_list (pv 6) pe_int (fun _ _ => rfl)) (pe_callB call_len_str (by rfl) B.len PySem.boot_len (pa_cons (pv 3) pa_nil))) (fun _ _ => rfl))))
        (pss_one (ps_if (PW.pt (pw_and (pt_cmpR (r := rIn K false) op_in_seq (pv 1) (pe_tup (pa_cons pe_int (pa_cons pe_int pa_nil))) (by rfl)) (pw_and (pt_cmpR op_eq (pv 5) pe_int (nomark _)) (pw_and1 (pt_cmpR op_gt (pe_ix ix_list (pv 6) pe_int (fun _ _ => rfl)) pe_int (nomark _))))))
          (pss_one (ps_set (i := 4) sc_text.nd rfl (Or.inl rfl) (pe_ix ix_str pe_str (pe_ix ix_list (pv 6) pe_int (fun _ _ => rfl)) (fun _ _ => rfl)))) pss_nil)))))
      (pss_one (ps_ret (pv 4))))), ?_⟩
    refine ⟨_, rfl, k, rfl, h0, h7, fun z H1 z0 z2 _ s1' => ?_⟩
    refine ⟨_, rfl, _, rfl, by omega, by omega, ?_⟩
    have en : ((n : Nat) : Int).toNat = n := by omega
    rw [en]
    refine for_range (fun i σ H2 => ∃ v5 v6 y, σ = [some (.ref a), some (.int k), some (.int n), some (.str z), some (.str y), v5, v6] ∧ y.length ≤ i ∧ Same H H2) ⟨none, none, "", rfl, Nat.le_refl _, s1'⟩ ?_ ?_
    · rintro i σ H2 hi ⟨v5, v6, y, rfl, hy, s2⟩
      refine ⟨_, rfl, _, rfl, _, _, rfl, rfl, a, ns, 2 + i, ?_, s2.seq hS, len_le (show 2 ≤ 100 by decide), fun t ht => ?_⟩
      · have e : (2 : Int) + (0 + (i : Int)) = ((2 + i : Nat) : Int) := by omega
        rw [← e]
        rfl
      refine ⟨_, t, [97, 5], rfl, SqL.of upd_same, by decide, by decide, fun u H3 s3 hu e3 => ?_⟩
      have s03 : Same H H3 := s2.trans' ((Same.new ht).trans' s3)
      generalize hm : mixM (cellM ns (2 + i)) = m at e3
      have e3 : H3 u = some (.lst [.int (m % 97), .int (m / 97 % 5)]) := by rw [e3, ← hm]; rfl
      have zl : (0 : Int) < (z.length : Nat) := by omega
      have mb : 0 ≤ m % 97 % (z.length : Nat) ∧ m % 97 % (z.length : Nat) < (z.length : Nat) := ⟨Int.emod_nonneg _ (by omega), Int.emod_lt_of_pos _ zl⟩
      obtain ⟨d, ed⟩ := at_str z (m % 97 % (z.length : Nat)) mb.1 mb.2
      refine ⟨_, rfl, _, rfl, _, rfl, u, _, _, _, rfl, rfl, SqL.of e3, rfl, _, rfl, _, rfl, Nat.le_trans (show _ ≤ 200 from z2) (by decide), _, _, rfl, rfl, zl, _, _, _, rfl, rfl, Nat.le_trans (show _ ≤ 200 from z2) (by decide), ed, _, _, rfl, rfl, ?_, ?_⟩
      · exact Nat.le_trans (show y.length + 1 ≤ 200 by omega) (by decide)
      have fin : ∀ H4 (y' : Str), y'.length ≤ i + 1 → Same H H4 → ∃ v5 v6 y, [some (V.ref a), some (V.int k), some (V.int n), some (V.str z), some (V.str y'), some (V.int (0 + (i : Int))), some (V.ref u)] = [some (V.ref a), some (V.int k), some (V.int n), some (V.str z), some (V.str y), v5, v6] ∧ y.length ≤ i + 1 ∧ Same H H4 :=
        fun H4 y' h1 h2 => ⟨_, _, y', rfl, h1, h2⟩
      have l1 : (y ++ (⟨#[d]⟩ : Str)).length ≤ i + 1 := by rw [len_app]; show y.length + 1 ≤ i + 1; omega
      refine ⟨_, rfl, len_le (show 2 ≤ 100 by decide), fun tt htt => ?_⟩
      have s04 := s03.trans' (Same.new (o := .tup [.int 2, .int 4]) htt)
      have e4 := (Same.new (o := .tup [.int 2, .int 4]) htt) u _ e3
      refine ⟨tt, _, rfl, .inr (.inl (.inl upd_same)), rfl, rfl, _, rfl, ite2 (fun _ => ?_) (fun _ => ?_)⟩
      · refine ⟨_, rfl, rfl, _, rfl, ite2 (fun _ => ?_) (fun _ => ?_)⟩
        · refine ⟨_, rfl, u, _, _, _, rfl, rfl, SqL.of e4, rfl, _, _, rfl, rfl, _, rfl, ite2 (fun _ => ?_) (fun _ => ?_)⟩
          · have mb5 : 0 ≤ m / 97 % 5 ∧ m / 97 % 5 < 5 := ⟨Int.emod_nonneg _ (by decide), Int.emod_lt_of_pos _ (by decide)⟩
            obtain ⟨d5, ed5⟩ := at_str ("yabnz" : Str) (m / 97 % 5) mb5.1 mb5.2
            exact ⟨_, rfl, u, _, _, _, rfl, rfl, SqL.of e4, rfl, _, _, _, rfl, rfl, len_le (show 5 ≤ 100 by decide), ed5, fin _ ⟨#[d5]⟩ (by show 1 ≤ i + 1; omega) s04⟩
          · exact fin _ _ l1 s04
        · exact iteF (fin _ _ l1 s04)
      · exact iteF (fin _ _ l1 s04)
    · rintro σ H2 ⟨v5, v6, y, rfl, hy, s2⟩
      exact ⟨_, rfl, q y H2 hy s2⟩
end
end K01
set_option Elab.async false
set_option linter.all false
set_option maxRecDepth 100000
set_option maxHeartbeats 1000000
namespace K01
open PySem L2
open PyProof.Rows (envOfC)
abbrev s_law : Stmt := top 25
abbrev b_law (j : Nat) : Stmt := (defBody s_law).getD j (.Pass ⟨0, 0, 0, 0⟩)
abbrev NL : List Str := ["_law_script", "_law_drawn", "_law_text_here", "_law_at", "_law_count", "_law_low", "_law_due", "_law_fits", "_law_row", "_law_pattern", "_law_others", "_law_sign", "_law_answer"]
theorem sc_law : FnScope NL ["_law_script"] (defScope s_law) := ⟨rfl, rfl, rfl, by decide +kernel, rfl, by decide +kernel, by decide +kernel⟩
def qL : Str := "law" ++ ".<locals>." ++ "<lambda>"
theorem den_t2 {K : PySem.W.Frag} {H : Hp} {p : Addr} {x y : V} {d e : Dt} (h : H p = some (.tup [x, y])) (hx : Den K H x d) (hy : Den K H y e) : Den K H (.ref p) (.tup [d, e]) := by
  refine .tup (.inl (.inl h)) rfl (show 2 ≤ 5000 by decide) fun i u v hu hv => ?_
  match i, hu, hv with
  | 0, hu, hv => cases hu; cases hv; exact hx
  | 1, hu, hv => cases hu; cases hv; exact hy
  | _ + 2, hu, _ => cases hu
theorem den_t1 {K : PySem.W.Frag} {H : Hp} {p : Addr} {x : V} {d : Dt} (h : H p = some (.tup [x])) (hx : Den K H x d) : Den K H (.ref p) (.tup [d]) := by
  refine .tup (.inl (.inl h)) rfl (show 1 ≤ 5000 by decide) fun i u v hu hv => ?_
  match i, hu, hv with
  | 0, hu, hv => cases hu; cases hv; exact hx
  | _ + 1, hu, _ => cases hu
theorem eqb_t1 (a : Str) : (Dt.tup [.str a]).eqb (.tup [.str a]) = true := by
  show (decide (a = a) && true) = true
  rw [decide_eq_true rfl]; rfl
theorem eqb_bl (b : Bool) : (Dt.tup [.str "told", .bl b]).eqb (.tup [.str "told", .bl b]) = true := by
  cases b <;> decide +kernel
theorem eqb_str (a : Str) : (Dt.tup [.str "told", .str a]).eqb (.tup [.str "told", .str a]) = true := by
  show (decide (("told" : Str) = "told") && (decide (a = a) && true)) = true
  rw [decide_eq_true rfl, decide_eq_true rfl]; rfl
def dRow (q : Int) (b : Bool) : Dt := if 1 ≤ q ∧ q ≤ 12 then .tup [.str "told", .bl b] else .tup [.str "bad count"]
def dSign (z : Str) : Dt := if z = "y" then .tup [.str "told", .str "n"] else if z = "n" then .tup [.str "told", .str "y"] else .tup [.str "bad sign"]
theorem ps_weak {X : Cx} {st : Stmt} {t t' : TS} (h : PS X st t) (hm : ∀ D σ H, t' D σ H → t D σ H) : PS X st t' := fun pins s σ H D I q => h pins s σ H D I (hm D σ H q)
def tGo (Pt : Addr) (G : St → Hp → Prop) : TS := fun D σ H => TabOk H Pt qL ∧ G σ H ∧ ∀ H', SameP Pt H H' → TabOk H' Pt qL → D.nx σ H'
section
variable {P : Program} {w : World} {K : PySem.W.Frag} {mg : Str → Option Value} {base : Heap} {W BC BS fW fC fS : Addr} {gW gC gS : FuncData}
abbrev XL (P : Program) (w : World) (K : PySem.W.Frag) (mg : Str → Option Value) (base : Heap) (f : Addr) (cc : Addr) (A : Around) (outer : List Env) (s : Shared) (H : Hp) (E : XK) : Cx :=
  (cxOf (CXE P w) P w K mg base NL "law" (defScope s_law) f (.ref cc) A outer s H E).nox
variable {f cc Pt : Addr} {A : Around} {outer : List Env} {s : Shared} {H0 : Hp} {E0' : XK}
def See (K : PySem.W.Frag) (H : Hp) (n : Nat) (c : Nat → Nat) (q : Int) (b1 b2 : Bool) (σ : St) : Prop := ∃ (v0 v1 v3 v5 v6 v7 v10 v11 v12 : Option V) (x y : V), σ = [v0, v1, some (.str (tx n c)), v3, some (.int q), v5, v6, v7, some x, some y, v10, v11, v12] ∧ Den K H x (dRow q b1) ∧ Den K H y (dRow q b2)
theorem SameP.den {K : PySem.W.Frag} {Pt : Addr} {H H' : Hp} {v : V} {d : Dt} (hT : TabOk H Pt qL) (s : SameP Pt H H') (h : Den K H v d) : Den K H' v d := by
  obtain ⟨ps, hp, _⟩ := hT.ex
  have ne : ∀ {b : Addr} {o : HO}, H b = some o → (∀ ps, o ≠ .tbl ps) → b ≠ Pt := fun e n z => by
    rw [z, hp] at e; cases e; exact n _ rfl
  induction h with
  | non => exact .non
  | bl b => exact .bl b
  | int i => exact .int i
  | str x => exact .str x
  | lst h1 h2 h3 _ ih =>
    refine .lst ?_ h2 h3 ih
    rcases h1 with (h | ⟨o, h⟩) | h
    · exact .inl (.inl (s _ _ (ne h fun ps z => by cases z) h))
    · exact .inl (.inr ⟨o, s _ _ (ne h fun ps z => by cases z) h⟩)
    · exact .inr h
  | tup h1 h2 h3 _ ih =>
    refine .tup ?_ h2 h3 ih
    rcases h1 with (h | ⟨o, h⟩) | h
    · exact .inl (.inl (s _ _ (ne h fun ps z => by cases z) h))
    · exact .inl (.inr ⟨o, s _ _ (ne h fun ps z => by cases z) h⟩)
    · exact .inr h
theorem if_row {fs fw fr fc fo : Addr} {gs gw gr gc go : FuncData} (Ds : Df K mg "_law_same" s_same Ps fs gs) (Dw : Df K mg "_law_word" s_word ["_law_asked"] fw gw) (Dr : Df K mg "is_row" s_isrow Prow fr gr) (Dc : Df K mg "check_count" s_ccount ["questions"] fc gc) (Do : Df K mg "only_of" s_only Pon fo go)
    (T : Xs K mg W BC BS fW fC fS gW gC gS) (B : Bt mg) (C : PySem.W.CodeHd base cc Pt) (BM : BMain mg base) (hr : Room 7 (A.deeper (envOfC "law" (defScope s_law) s.heap.objs.size f (.ref cc)))) :
    PS (XL P w K mg base f cc A outer s H0 E0') (b_law 13) (tGo Pt fun σ H => ∃ n c q b, n ≤ 1000 ∧ See K H n c q (rowA n c q "ny") b σ) := by
  refine ps_weak (ps_if (pt_not (pt_val (pe_fn Ds (ok_same Ds B 2) (hr.mono (by decide)) passN (pa_cons
    (pe_word (W := W) (P := Pt) (c := cc) (kl := 5) (kw := 7) (N := ["_law_text_here", "_law_count"]) (fm := [2, 4]) (t := fun E => tCall (spRow BC "ny") [] E (tCons (tVar 0) (tCons (tVar 1) tNil))) Dw (fun base f fdl spl ho hb G => ok_word Dw T ho hb G) hr rfl C BM (fun _ => rfl)
      (by exact ⟨rfl, rfl, rfl, by decide +kernel⟩) (by exact (show ∀ y : Str × NameKind, y ∈ _ → y.2 = NameKind.free → (defScope s_law).names.lookup y.1 = some NameKind.cell by decide +kernel)) rfl
      (by
        intro i x h
        match i, h with
        | 0, h => cases h; exact ⟨rfl, 2, rfl, rfl⟩
        | 1, h => cases h; exact ⟨rfl, 4, rfl, rfl⟩
        | _ + 2, h => cases h)
      (by intro base f c' A outer s H E hr; exact pe_fn Dr (ok_isrow Dr Dc Do T B) hr passL (pa_cons (pv 0) (pa_cons (pv 1) pa_nil))) passN) (pa_cons (pv 8) pa_nil))))) (pss_one (ps_ret pe_bl)) pss_nil) ?_
  rintro D σ H ⟨TT, ⟨n, c, q, b, hn, v0, v1, v3, v5, v6, v7, v10, v11, v12, x, y, rfl, dx, dy⟩, k⟩
  refine ⟨TT, fun H1 T1 s1 => ?_⟩
  have dx1 := SameP.den TT s1 dx
  refine ⟨_, rfl, _, rfl, n, c, q, rfl, hn, ?_⟩
  by_cases hq : okQ q
  · refine .inl ⟨hq, fun H2 s2 => toldQ.mk fun r hr' => ?_⟩
    have e : dRow q (rowA n c q "ny") = .tup [.str "told", .bl (rowA n c q "ny")] := if_pos hq
    rw [e] at dx1
    have s23 := s2.trans' (Same.new (o := .tup [.str "told", .bl (rowA n c q "ny")]) hr')
    refine ⟨_, rfl, _, _, _, _, rfl, den_t2 upd_same (.str _) (.bl _), dx1.mono s23, Nat.le_refl 1, fun H3 s3 => ⟨_, rfl, ?_⟩⟩
    rw [eqb_bl]
    exact iteF (k H3 (s1.trans (.of (s23.trans' s3))) (T1.same (s23.trans' s3)))
  · refine .inr ⟨hq, fun dx' Hx sx ex => ⟨BC, dx', "bad count", rfl, rfl, ex, T.sC, T.kC, fun H2 r s2 hr' => ?_⟩⟩
    have e : dRow q (rowA n c q "ny") = .tup [.str "bad count"] := if_neg hq
    rw [e] at dx1
    have s23 := (sx.trans' s2).trans' (Same.new (o := .tup [.str "bad count"]) hr')
    refine ⟨_, rfl, _, _, _, _, rfl, den_t1 upd_same (.str _), dx1.mono s23, Nat.le_refl 1, fun H3 s3 => ⟨_, rfl, ?_⟩⟩
    rw [eqb_t1]
    exact iteF (k H3 (s1.trans (.of (s23.trans' s3))) (T1.same (s23.trans' s3)))
end
end K01
set_option Elab.async false
set_option linter.all false
set_option maxRecDepth 100000
set_option maxHeartbeats 1000000
namespace K01
open PySem L2
open PyProof.Rows (envOfC)
def forBody : Stmt → List Stmt
  | .For _ _ b _ _ => b
  | _ => []
abbrev c_law (j : Nat) : Stmt := (forBody (b_law 16)).getD j (.Pass ⟨0, 0, 0, 0⟩)
section
variable {P : Program} {w : World} {K : PySem.W.Frag} {mg : Str → Option Value} {base : Heap} {W BC BS fW fC fS : Addr} {gW gC gS : FuncData}
variable {f cc Pt : Addr} {A : Around} {outer : List Env} {s : Shared} {H0 : Hp} {E0' : XK}
theorem if_pat {fs fw fr fc fo : Addr} {gs gw gr gc go : FuncData} (Ds : Df K mg "_law_same" s_same Ps fs gs) (Dw : Df K mg "_law_word" s_word ["_law_asked"] fw gw) (Dr : Df K mg "is_pattern" s_ispat Ppat fr gr) (Dc : Df K mg "check_count" s_ccount ["questions"] fc gc) (Do : Df K mg "only_of" s_only Pon fo go)
    (T : Xs K mg W BC BS fW fC fS gW gC gS) (B : Bt mg) (C : PySem.W.CodeHd base cc Pt) (BM : BMain mg base) (hr : Room 7 (A.deeper (envOfC "law" (defScope s_law) s.heap.objs.size f (.ref cc)))) :
    PS (XL P w K mg base f cc A outer s H0 E0') (b_law 14) (tGo Pt fun σ H => ∃ n c q b, n ≤ 1000 ∧ See K H n c q b (rowA n c q "ny-") σ) := by
  refine ps_weak (ps_if (pt_not (pt_val (pe_fn Ds (ok_same Ds B 2) (hr.mono (by decide)) passN (pa_cons
    (pe_word (W := W) (P := Pt) (c := cc) (kl := 5) (kw := 7) (N := ["_law_text_here", "_law_count"]) (fm := [2, 4]) (t := fun E => tCall (spRow BC "ny-") [] E (tCons (tVar 0) (tCons (tVar 1) tNil))) Dw (fun base f fdl spl ho hb G => ok_word Dw T ho hb G) hr rfl C BM (fun _ => rfl)
      (by exact ⟨rfl, rfl, rfl, by decide +kernel⟩) (by exact (show ∀ y : Str × NameKind, y ∈ _ → y.2 = NameKind.free → (defScope s_law).names.lookup y.1 = some NameKind.cell by decide +kernel)) rfl
      (by
        intro i x h
        match i, h with
        | 0, h => cases h; exact ⟨rfl, 2, rfl, rfl⟩
        | 1, h => cases h; exact ⟨rfl, 4, rfl, rfl⟩
        | _ + 2, h => cases h)
      (by intro base f c' A outer s H E hr; exact pe_fn Dr (ok_ispat Dr Dc Do T B) hr passL (pa_cons (pv 0) (pa_cons (pv 1) pa_nil))) passN) (pa_cons (pv 9) pa_nil))))) (pss_one (ps_ret pe_bl)) pss_nil) ?_
  rintro D σ H ⟨TT, ⟨n, c, q, b, hn, v0, v1, v3, v5, v6, v7, v10, v11, v12, x, y, rfl, dx, dy⟩, k⟩
  refine ⟨TT, fun H1 T1 s1 => ?_⟩
  have dx1 := SameP.den TT s1 dy
  refine ⟨_, rfl, _, rfl, n, c, q, rfl, hn, ?_⟩
  by_cases hq : okQ q
  · refine .inl ⟨hq, fun H2 s2 => toldQ.mk fun r hr' => ?_⟩
    have e : dRow q (rowA n c q "ny-") = .tup [.str "told", .bl (rowA n c q "ny-")] := if_pos hq
    rw [e] at dx1
    have s23 := s2.trans' (Same.new (o := .tup [.str "told", .bl (rowA n c q "ny-")]) hr')
    refine ⟨_, rfl, _, _, _, _, rfl, den_t2 upd_same (.str _) (.bl _), dx1.mono s23, Nat.le_refl 1, fun H3 s3 => ⟨_, rfl, ?_⟩⟩
    rw [eqb_bl]
    exact iteF (k H3 (s1.trans (.of (s23.trans' s3))) (T1.same (s23.trans' s3)))
  · refine .inr ⟨hq, fun dx' Hx sx ex => ⟨BC, dx', "bad count", rfl, rfl, ex, T.sC, T.kC, fun H2 r s2 hr' => ?_⟩⟩
    have e : dRow q (rowA n c q "ny-") = .tup [.str "bad count"] := if_neg hq
    rw [e] at dx1
    have s23 := (sx.trans' s2).trans' (Same.new (o := .tup [.str "bad count"]) hr')
    refine ⟨_, rfl, _, _, _, _, rfl, den_t1 upd_same (.str _), dx1.mono s23, Nat.le_refl 1, fun H3 s3 => ⟨_, rfl, ?_⟩⟩
    rw [eqb_t1]
    exact iteF (k H3 (s1.trans (.of (s23.trans' s3))) (T1.same (s23.trans' s3)))
def SeeS (K : PySem.W.Frag) (H : Hp) (z : Str) (σ : St) : Prop := ∃ (v0 v1 v2 v3 v4 v5 v6 v7 v8 v9 v10 : Option V) (x : V), σ = [v0, v1, v2, v3, v4, v5, v6, v7, v8, v9, v10, some (.str z), some x] ∧ Den K H x (dSign z)
theorem if_sign {fs fw fo fc : Addr} {gs gw go gc : FuncData} (Ds : Df K mg "_law_same" s_same Ps fs gs) (Dw : Df K mg "_law_word" s_word ["_law_asked"] fw gw) (Do : Df K mg "other" s_other ["sign"] fo go) (Dc : Df K mg "check_sign" s_csign ["sign"] fc gc)
    (T : Xs K mg W BC BS fW fC fS gW gC gS) (B : Bt mg) (C : PySem.W.CodeHd base cc Pt) (BM : BMain mg base) (hr : Room 7 (A.deeper (envOfC "law" (defScope s_law) s.heap.objs.size f (.ref cc)))) :
    PS (XL P w K mg base f cc A outer s H0 E0') (c_law 1) (tGo Pt fun σ H => ∃ z, SeeS K H z σ) := by
  refine ps_weak (ps_if (pt_not (pt_val (pe_fn Ds (ok_same Ds B 2) (hr.mono (by decide)) passN (pa_cons
    (pe_word (W := W) (P := Pt) (c := cc) (kl := 5) (kw := 7) (N := ["_law_sign"]) (fm := [11]) (t := fun E => tCall (spOther BS) [] E (tCons (tVar 0) tNil)) Dw (fun base f fdl spl ho hb G => ok_word Dw T ho hb G) hr rfl C BM (fun _ => rfl)
      (by exact ⟨rfl, rfl, rfl, by decide +kernel⟩) (by exact (show ∀ y : Str × NameKind, y ∈ _ → y.2 = NameKind.free → (defScope s_law).names.lookup y.1 = some NameKind.cell by decide +kernel)) rfl
      (by
        intro i x h
        match i, h with
        | 0, h => cases h; exact ⟨rfl, 11, rfl, rfl⟩
        | _ + 1, h => cases h)
      (by intro base f c' A outer s H E hr; exact pe_fn Do (ok_other Do Dc T) hr passL (pa_cons (pv 0) pa_nil)) passN) (pa_cons (pv 12) pa_nil))))) (pss_one (ps_ret pe_bl)) pss_nil) ?_
  rintro D σ H ⟨TT, ⟨z, v0, v1, v2, v3, v4, v5, v6, v7, v8, v9, v10, x, rfl, dx⟩, k⟩
  refine ⟨TT, fun H1 T1 s1 => ?_⟩
  have dx1 := SameP.den TT s1 dx
  refine ⟨_, rfl, z, rfl, ?_⟩
  by_cases h1 : z = "y"
  · refine .inl ⟨h1, toldQ.mk fun r hr' => ?_⟩
    have e : dSign z = .tup [.str "told", .str "n"] := if_pos h1
    rw [e] at dx1
    have s23 := Same.new (o := .tup [.str "told", .str "n"]) hr'
    refine ⟨_, rfl, _, _, _, _, rfl, den_t2 upd_same (.str _) (.str _), dx1.mono s23, Nat.le_refl 1, fun H3 s3 => ⟨_, rfl, ?_⟩⟩
    rw [eqb_str]
    exact iteF (k H3 (s1.trans (.of (s23.trans' s3))) (T1.same (s23.trans' s3)))
  · by_cases h2 : z = "n"
    · refine .inr (.inl ⟨h2, toldQ.mk fun r hr' => ?_⟩)
      have e : dSign z = .tup [.str "told", .str "y"] := (if_neg h1).trans (if_pos h2)
      rw [e] at dx1
      have s23 := Same.new (o := .tup [.str "told", .str "y"]) hr'
      refine ⟨_, rfl, _, _, _, _, rfl, den_t2 upd_same (.str _) (.str _), dx1.mono s23, Nat.le_refl 1, fun H3 s3 => ⟨_, rfl, ?_⟩⟩
      rw [eqb_str]
      exact iteF (k H3 (s1.trans (.of (s23.trans' s3))) (T1.same (s23.trans' s3)))
    · refine .inr (.inr ⟨fun y => y.elim h1 h2, fun dx' Hx sx ex => ⟨BS, dx', "bad sign", rfl, rfl, ex, T.sS, T.kS, fun H2 r s2 hr' => ?_⟩⟩)
      have e : dSign z = .tup [.str "bad sign"] := (if_neg h1).trans (if_neg h2)
      rw [e] at dx1
      have s23 := (sx.trans' s2).trans' (Same.new (o := .tup [.str "bad sign"]) hr')
      refine ⟨_, rfl, _, _, _, _, rfl, den_t1 upd_same (.str _), dx1.mono s23, Nat.le_refl 1, fun H3 s3 => ⟨_, rfl, ?_⟩⟩
      rw [eqb_t1]
      exact iteF (k H3 (s1.trans (.of (s23.trans' s3))) (T1.same (s23.trans' s3)))
abbrev oths : List (Key × V) := [(.inr "y", .str "n"), (.inr "n", .str "y")]
theorem oth_val (z : Str) : valV oths (.inr z) = if z = "y" then some (.str "n") else if z = "n" then some (.str "y") else none := by
  by_cases h1 : z = "y"
  · subst h1; rfl
  · rw [if_neg h1]
    have n1 : ¬ (Sum.inr "y" : Key) = Sum.inr z := fun e => h1 (by injection e with e; exact e.symm)
    by_cases h2 : z = "n"
    · subst h2; rfl
    · rw [if_neg h2]
      have n2 : ¬ (Sum.inr "n" : Key) = Sum.inr z := fun e => h2 (by injection e with e; exact e.symm)
      unfold valV
      rw [List.find?_cons_of_neg (by simpa using n1), List.find?_cons_of_neg (by simpa using n2)]
      rfl
theorem set_answer (hr : Room 7 (A.deeper (envOfC "law" (defScope s_law) s.heap.objs.size f (.ref cc)))) :
    PS (XL P w K mg base f cc A outer s H0 E0') (c_law 0) (fun D σ H => ∃ (v0 v1 v2 v3 v4 v5 v6 v7 v8 v9 v12 : Option V) (d : Addr) (z : Str), σ = [v0, v1, v2, v3, v4, v5, v6, v7, v8, v9, some (.ref d), some (.str z), v12] ∧ H d = some (.dK oths) ∧
      ∀ H' x, Same H H' → Den K H' x (dSign z) → D.nx [v0, v1, v2, v3, v4, v5, v6, v7, v8, v9, some (.ref d), some (.str z), some x] H') := by
  refine ps_weak (ps_set (i := 12) sc_law.nd rfl (Or.inl rfl) (pe_ifExp (pt_cmp (pc_din (hu_of hr) (pv 11) (pv 10))) (pe_tup (pa_cons pe_str (pa_cons (pe_dget (hu_of hr) (pv 10) (pv 11) (fun _ _ => rfl)) pa_nil))) (pe_tup (pa_cons pe_str pa_nil)))) ?_
  rintro D σ H ⟨v0, v1, v2, v3, v4, v5, v6, v7, v8, v9, v12, d, z, rfl, hd, k⟩
  refine ⟨_, rfl, _, rfl, d, _, rfl, DGet.k (k := .inr z) hd, _, rfl, ?_⟩
  have g : DGet H d (.str z) (valV oths (.inr z)) := DGet.k (k := .inr z) hd
  by_cases h1 : z = "y"
  · have e : valV oths (.inr z) = some (.str "n") := (oth_val z).trans (if_pos h1)
    rw [e] at g ⊢
    refine iteT ⟨_, rfl, _, rfl, d, _, rfl, g, len_le (show 2 ≤ 100 by decide), fun p hp => k _ _ (Same.new hp) ?_⟩
    rw [show dSign z = _ from if_pos h1]
    exact den_t2 upd_same (.str _) (.str _)
  · by_cases h2 : z = "n"
    · have e : valV oths (.inr z) = some (.str "y") := (oth_val z).trans ((if_neg h1).trans (if_pos h2))
      rw [e] at g ⊢
      refine iteT ⟨_, rfl, _, rfl, d, _, rfl, g, len_le (show 2 ≤ 100 by decide), fun p hp => k _ _ (Same.new hp) ?_⟩
      rw [show dSign z = _ from (if_neg h1).trans (if_pos h2)]
      exact den_t2 upd_same (.str _) (.str _)
    · have e : valV oths (.inr z) = none := (oth_val z).trans ((if_neg h1).trans (if_neg h2))
      rw [e]
      refine iteF ⟨len_le (show 1 ≤ 100 by decide), fun p hp => k _ _ (Same.new hp) ?_⟩
      rw [show dSign z = _ from (if_neg h1).trans (if_neg h2)]
      exact den_t1 upd_same (.str _)
end
end K01
set_option Elab.async false
set_option linter.all false
set_option maxRecDepth 100000
set_option maxHeartbeats 1000000
namespace K01
open PySem L2
open PyProof.Rows (envOfC)
theorem low_l : ("abcdefghijklmnopqrstuvwxyz" : Str).cps.toList = [97, 98, 99, 100, 101, 102, 103, 104, 105, 106, 107, 108, 109, 110, 111, 112, 113, 114, 115, 116, 117, 118, 119, 120, 121, 122] := by decide +kernel
theorem lowfig_l : (("abcdefghijklmnopqrstuvwxyz" : Str) ++ ("0123456789" : Str)).cps.toList = [97, 98, 99, 100, 101, 102, 103, 104, 105, 106, 107, 108, 109, 110, 111, 112, 113, 114, 115, 116, 117, 118, 119, 120, 121, 122, 48, 49, 50, 51, 52, 53, 54, 55, 56, 57] := by decide +kernel
theorem in_low (d : Nat) : inS "abcdefghijklmnopqrstuvwxyz" d = betw 97 122 d := by
  unfold inS betw
  rw [low_l, Bool.eq_iff_iff, Bool.and_eq_true, decide_eq_true_iff, decide_eq_true_iff, decide_eq_true_iff]
  simp only [List.mem_cons, List.not_mem_nil, or_false]
  omega
theorem in_lowfig (d : Nat) : inS (("abcdefghijklmnopqrstuvwxyz" : Str) ++ ("0123456789" : Str)) d = signB d := by
  unfold inS signB betw
  rw [lowfig_l, Bool.eq_iff_iff, Bool.or_eq_true, Bool.and_eq_true, Bool.and_eq_true, decide_eq_true_iff, decide_eq_true_iff, decide_eq_true_iff, decide_eq_true_iff, decide_eq_true_iff]
  simp only [List.mem_cons, List.not_mem_nil, or_false]
  omega
theorem yn_ny (d : Nat) : inS "yn" d = inS "ny" d := by
  unfold inS
  rw [show ("yn" : Str).cps.toList = [121, 110] by decide +kernel, show ("ny" : Str).cps.toList = [110, 121] by decide +kernel, Bool.eq_iff_iff, decide_eq_true_iff, decide_eq_true_iff]
  simp only [List.mem_cons, List.not_mem_nil, or_false]
  omega
theorem ynd_nyd (d : Nat) : inS "yn-" d = inS "ny-" d := by
  unfold inS
  rw [show ("yn-" : Str).cps.toList = [121, 110, 45] by decide +kernel, show ("ny-" : Str).cps.toList = [110, 121, 45] by decide +kernel, Bool.eq_iff_iff, decide_eq_true_iff, decide_eq_true_iff]
  simp only [List.mem_cons, List.not_mem_nil, or_false]
  omega
theorem row_yn (n : Nat) (c : Nat → Nat) (q : Int) : rowA n c q "yn" = rowA n c q "ny" := by
  unfold rowA
  rw [allN_congr fun i _ => yn_ny (c i)]
theorem row_ynd (n : Nat) (c : Nat → Nat) (q : Int) : rowA n c q "yn-" = rowA n c q "ny-" := by
  unfold rowA
  rw [allN_congr fun i _ => ynd_nyd (c i)]
theorem ne_empty {y : Str} (h : ¬ y = "") : 0 < y.length := by
  cases hy : y.length with
  | succ n => exact Nat.succ_pos n
  | zero =>
    refine absurd ?_ h
    rw [all_tx y, hy]
    rfl
section
variable {P : Program} {w : World} {K : PySem.W.Frag} {mg : Str → Option Value} {base : Heap} {W BC BS fW fC fS : Addr} {gW gC gS : FuncData}
variable {f cc Pt : Addr} {A : Around} {outer : List Env} {s : Shared} {H0 : Hp} {E0' : XK}
theorem st_text {fs : Addr} {gs : FuncData} (Ds : Df K mg "_law_signs" s_signs ["_law_kind"] fs gs) (B : Bt mg) (hr : Room 7 (A.deeper (envOfC "law" (defScope s_law) s.heap.objs.size f (.ref cc)))) :
    PS (XL P w K mg base f cc A outer s H0 E0') (b_law 3) (fun D σ H => ∃ (v0 v3 v4 v5 v6 v7 v8 v9 v10 v11 v12 : Option V) (u : Addr) (d0 d1 d2 d3 d4 : Int) (y : Str), σ = [v0, some (.ref u), some (.str y), v3, v4, v5, v6, v7, v8, v9, v10, v11, v12] ∧ H u = some (.lst [.int d0, .int d1, .int d2, .int d3, .int d4]) ∧ y.length ≤ 14 ∧
      ∀ H' y' v3', y'.length ≤ 100 → Same H H' → D.nx [v0, some (.ref u), some (.str y'), v3', v4, v5, v6, v7, v8, v9, v10, v11, v12] H') := by
  refine ps_weak (ps_if (PW.pt (pw_and (pt_cmpR op_eq (pe_ix ix_list (pv 1) pe_int (fun _ _ => rfl)) pe_int (nomark _)) (pw_and1 (pt_cmpR op_ne (pv 2) pe_str (nomark _)))))
    (pss_cons (ps_set (i := 3) sc_law.nd rfl (Or.inl rfl) (pe_op op_mod (pe_ix ix_list (pv 1) pe_int (fun _ _ => rfl)) (pe_callB call_len_str (by rfl) B.len PySem.boot_len (pa_cons (pv 2) pa_nil))))
    (pss_one (ps_set (i := 2) sc_law.nd rfl (Or.inr rfl) (pe_op op_add_str (pe_op op_add_str (pe_slice sl_str (pv 2) po_none (po_some (pv 3)))
      (pe_ix ix_str (pe_fn Ds (ok_signs Ds B) (hr.mono (by decide)) passN (pa_cons pe_int pa_nil)) (pe_op op_mod (pe_ix ix_list (pv 1) pe_int (fun _ _ => rfl)) pe_int) (fun _ _ => rfl))) (pe_slice sl_str (pv 2) (po_some (pe_op op_add (pv 3) pe_int)) po_none))))) pss_nil) ?_
  rintro D σ H ⟨v0, v3, v4, v5, v6, v7, v8, v9, v10, v11, v12, u, d0, d1, d2, d3, d4, y, rfl, hu, hy, k⟩
  have ky : D.nx [v0, some (.ref u), some (.str y), v3, v4, v5, v6, v7, v8, v9, v10, v11, v12] H := k H y v3 (by omega) (Same.refl H)
  have sm : ∀ z : Str, z.length ≤ 300 → z.length ≤ sizeLine := fun z h => Nat.le_trans h (by decide)
  refine ⟨_, rfl, u, _, _, _, rfl, rfl, SqL.of hu, rfl, rfl, _, rfl, ite2 (fun _ => ?_) (fun _ => ?_)⟩
  · refine ⟨_, rfl, rfl, _, rfl, ite2 (fun z => ?_) (fun _ => ?_)⟩
    · have z : (!decide (V.str y = V.str "")) = true := z
      have ny : ¬ y = "" := fun e => by rw [e] at z; simp at z
      have yl : (0 : Int) < (y.length : Nat) := by have := ne_empty ny; omega
      refine ⟨_, rfl, u, _, _, _, rfl, rfl, SqL.of hu, rfl, _, rfl, _, rfl, sm y (by omega), _, _, rfl, rfl, yl, ?_⟩
      refine ⟨_, rfl, _, rfl, _, rfl, y, rfl, sm y (by omega), fun y1 h1 => ?_⟩
      refine ⟨5, rfl, by decide, by decide, fun z H1 _ z2 z5 s1' => ?_⟩
      have z5 := z5 rfl
      have mb : 0 ≤ d4 % 95 ∧ d4 % 95 < 95 := ⟨Int.emod_nonneg _ (by decide), Int.emod_lt_of_pos _ (by decide)⟩
      obtain ⟨e, ee⟩ := at_str z (d4 % 95) mb.1 (by omega)
      refine ⟨_, rfl, u, _, _, _, rfl, rfl, SqL.of (s1' u _ hu), rfl, _, _, rfl, rfl, (by show (0 : Int) < 95; decide), _, _, _, rfl, rfl, sm z (by omega), ee, _, _, rfl, rfl, ?_, ?_⟩
      · exact Nat.le_trans (show y1.length + 1 ≤ 100 by omega) (by decide)
      refine ⟨_, rfl, _, rfl, _, _, rfl, rfl, _, rfl, y, rfl, sm y (by omega), fun y2 h2 => ?_⟩
      have l1 : (y1 ++ (⟨#[e]⟩ : Str)).length = y1.length + 1 := by rw [len_app]; rfl
      refine ⟨_, _, rfl, rfl, ?_, ?_⟩
      · rw [l1]
        exact Nat.le_trans (show y1.length + 1 + y2.length ≤ 100 by omega) (by decide)
      · exact k _ _ _ (by rw [len_app, l1]; omega) s1'
    · exact ky
  · exact iteF ky
theorem st_count {fr fc : Addr} {gr gc : FuncData} (Dr : Df K mg "_law_draws" s_draws Pdr fr gr) (Dc : Df K mg "_law_cell" s_cell ["_law_script", "_law_k"] fc gc) (B : Bt mg) (hr : Room 7 (A.deeper (envOfC "law" (defScope s_law) s.heap.objs.size f (.ref cc)))) :
    PS (XL P w K mg base f cc A outer s H0 E0') (b_law 4) (fun D σ H => ∃ (v3 v4 v5 v6 v7 v8 v9 v10 v11 v12 : Option V) (a u : Addr) (ns : List Int) (d0 d1 d2 d3 d4 : Int) (y : Str), σ = [some (.ref a), some (.ref u), some (.str y), v3, v4, v5, v6, v7, v8, v9, v10, v11, v12] ∧ SqL K H a (ns.map V.int) ∧ H u = some (.lst [.int d0, .int d1, .int d2, .int d3, .int d4]) ∧ y.length ≤ 100 ∧
      ∀ H' (q : Int), Same H H' → D.nx [some (.ref a), some (.ref u), some (.str y), v3, some (.int q), v5, v6, v7, v8, v9, v10, v11, v12] H') := by
  refine ps_weak (ps_set (i := 4) sc_law.nd rfl (Or.inr rfl) (pe_ix ix_list (pe_lst (pa_cons (pe_callB call_len_str (by rfl) B.len PySem.boot_len (pa_cons (pv 2) pa_nil))
      (pa_cons (pe_op op_sub (pe_ix ix_list (pe_fn Dr (ok_draws Dr B) (hr.mono (by decide)) passN (pa_cons (pe_fn Dc (ok_cell Dc B) (hr.mono (by decide)) passN (pa_cons (pv 0) (pa_cons pe_int pa_nil))) (pa_cons (pe_lst (pa_cons pe_int pa_nil)) pa_nil))) pe_int (fun _ _ => rfl)) pe_int) pa_nil)))
    (pe_callTy call_int1 (by rfl) B.int (by rfl) (pa_cons (pe_cmpR op_eq (pe_op op_mod (pe_ix ix_list (pv 1) pe_int (fun _ _ => rfl)) pe_int) pe_int (nomark _)) pa_nil)) (fun _ _ => rfl))) ?_
  rintro D σ H ⟨v3, v4, v5, v6, v7, v8, v9, v10, v11, v12, a, u, ns, d0, d1, d2, d3, d4, y, rfl, hS, hu, hy, k⟩
  refine ⟨_, rfl, _, rfl, Nat.le_trans hy (by decide), _, rfl, a, ns, 1, rfl, hS, len_le (show 1 ≤ 100 by decide), fun t ht => ?_⟩
  refine ⟨_, t, [18], rfl, SqL.of upd_same, by decide, by decide, fun u2 H3 s3 hu2 e3 => ?_⟩
  have s03 := (Same.new ht).trans' s3
  refine ⟨u2, _, _, .int (mixM (cellM ns 1) % 18), rfl, rfl, SqL.of e3, rfl, _, _, rfl, rfl, len_le (show 2 ≤ 100 by decide), fun p hp => ?_⟩
  have s04 := s03.trans' (Same.new (o := .lst [.int (y.length : Nat), .int (mixM (cellM ns 1) % 18 - 2)]) hp)
  refine ⟨_, rfl, u, _, _, _, rfl, rfl, SqL.of (s04 u _ hu), rfl, _, _, rfl, rfl, (by show (0 : Int) < 3; decide), rfl, .inr ⟨_, rfl, ?_⟩⟩
  cases decide (V.int (d2 % 3) = V.int 0) with
  | true => exact ⟨p, _, _, _, rfl, rfl, SqL.of upd_same, rfl, k _ _ s04⟩
  | false => exact ⟨p, _, _, _, rfl, rfl, SqL.of upd_same, rfl, k _ _ s04⟩
theorem st_huge : PS (XL P w K mg base f cc A outer s H0 E0') (b_law 5) (fun D σ H => ∃ (v0 v2 v3 v5 v6 v7 v8 v9 v10 v11 v12 : Option V) (u : Addr) (d0 d1 d2 d3 d4 q : Int), σ = [v0, some (.ref u), v2, v3, some (.int q), v5, v6, v7, v8, v9, v10, v11, v12] ∧ H u = some (.lst [.int d0, .int d1, .int d2, .int d3, .int d4]) ∧
      ∀ q', D.nx [v0, some (.ref u), v2, v3, some (.int q'), v5, v6, v7, v8, v9, v10, v11, v12] H) := by
  refine ps_weak (ps_if (pt_cmpR op_eq (pe_ix ix_list (pv 1) pe_int (fun _ _ => rfl)) pe_int (nomark _)) (pss_one (ps_set (i := 4) sc_law.nd rfl (Or.inr rfl) (pe_op op_add (pe_op op_pow pe_int pe_int) (pe_ix ix_list (pv 1) pe_int (fun _ _ => rfl))))) pss_nil) ?_
  rintro D σ H ⟨v0, v2, v3, v5, v6, v7, v8, v9, v10, v11, v12, u, d0, d1, d2, d3, d4, q, rfl, hu, k⟩
  refine ⟨_, rfl, u, _, _, _, rfl, rfl, SqL.of hu, rfl, rfl, _, rfl, ite2 (fun _ => ?_) (fun _ => k q)⟩
  exact ⟨_, _, rfl, rfl, (by unfold CPow; decide +kernel), _, rfl, u, _, _, _, rfl, rfl, SqL.of hu, rfl, _, _, rfl, rfl, k _⟩
end
end K01
set_option Elab.async false
set_option linter.all false
set_option maxRecDepth 100000
set_option maxHeartbeats 1000000
namespace K01
open PySem L2
open PyProof.Rows (envOfC)
section
variable {P : Program} {w : World} {K : PySem.W.Frag} {mg : Str → Option Value} {base : Heap} {W BC BS fW fC fS : Addr} {gW gC gS : FuncData}
variable {f cc Pt : Addr} {A : Around} {outer : List Env} {s : Shared} {H0 : Hp} {E0' : XK}
theorem st_due {fo : Addr} {go : FuncData} (Do : Df K mg "_law_of" s_of Pof fo go) (B : Bt mg) (hr : Room 7 (A.deeper (envOfC "law" (defScope s_law) s.heap.objs.size f (.ref cc)))) :
    PS (XL P w K mg base f cc A outer s H0 E0') (b_law 7) (fun D σ H => ∃ (v0 v1 v3 v4 v6 v7 v8 v9 v10 v11 v12 : Option V) (n : Nat) (c : Nat → Nat), σ = [v0, v1, some (.str (tx n c)), v3, v4, some (.str "abcdefghijklmnopqrstuvwxyz"), v6, v7, v8, v9, v10, v11, v12] ∧ n ≤ 100 ∧
      ∀ H', Same H H' → D.nx [v0, v1, some (.str (tx n c)), v3, v4, some (.str "abcdefghijklmnopqrstuvwxyz"), some (.bl (nameA n c)), v7, v8, v9, v10, v11, v12] H') := by
  refine ps_weak (ps_set (i := 6) sc_law.nd rfl (Or.inl rfl) (pe_and (pe_chain op_le op_le pe_int (pe_callB call_len_str (by rfl) B.len PySem.boot_len (pa_cons (pv 2) pa_nil)) pe_int)
    (pe_and (pe_cmpR op_in_str (pe_ix ix_str (pv 2) pe_int (fun _ _ => rfl)) (pv 5) (by rfl)) (pe_one (pe_fn Do (ok_of Do B) (hr.mono (by decide)) passN (pa_cons (pv 2) (pa_cons (pe_op op_add_str (pv 5) pe_str) pa_nil))))))) ?_
  rintro D σ H ⟨v0, v1, v3, v4, v6, v7, v8, v9, v10, v11, v12, n, c, rfl, hn, k⟩
  have en : ((tx n c).length : Int) = (n : Int) := by rw [tx_len]
  have no : ¬ (1 ≤ n ∧ n ≤ 12) → D.nx [v0, v1, some (.str (tx n c)), v3, v4, some (.str "abcdefghijklmnopqrstuvwxyz"), some (.bl false), v7, v8, v9, v10, v11, v12] H := fun z => by
    have := k H (Same.refl H)
    unfold nameA at this
    rw [decide_eq_false z, Bool.false_and] at this
    exact this
  refine ⟨_, rfl, _, rfl, small_tx _ _ (by omega), _, _, rfl, rfl, _, rfl, ite2 (fun z => ?_) (fun z => ?_)⟩
  · have z : (1 : Int) ≤ ((tx n c).length : Int) := of_decide_eq_true z
    rw [en] at z
    refine ⟨_, _, rfl, rfl, _, rfl, ite2 (fun z2 => ?_) (fun z2 => ?_)⟩
    · have z2 : ((tx n c).length : Int) ≤ 12 := of_decide_eq_true z2
      rw [en] at z2
      have k' : ∀ H', Same H H' → D.nx [v0, v1, some (.str (tx n c)), v3, v4, some (.str "abcdefghijklmnopqrstuvwxyz"), some (.bl (betw 97 122 (c 0) && allN n fun i => signB (c i))), v7, v8, v9, v10, v11, v12] H' := fun H' s' => by
        have := k H' s'
        unfold nameA at this
        rw [decide_eq_true (show 1 ≤ n ∧ n ≤ 12 by omega), Bool.true_and] at this
        exact this
      refine ⟨_, rfl, _, _, _, rfl, rfl, small_tx _ _ (by omega), tx_at (i := 0) (by omega), _, rfl, _, _, rfl, rfl, _, rfl, ?_⟩
      rw [in_one, show decide (c 0 ∈ ("abcdefghijklmnopqrstuvwxyz" : Str).cps.toList) = betw 97 122 (c 0) from in_low (c 0)]
      refine ite2 (fun z3 => ?_) (fun z3 => ?_)
      · rw [z3] at k'
        simp only [Bool.true_and] at k'
        refine ⟨_, rfl, _, rfl, _, _, rfl, rfl, len_le (by decide +kernel), n, c, _, rfl, by omega, fun H' s' => ?_⟩
        rw [allN_congr fun i _ => in_lowfig (c i)]
        exact k' H' s'
      · rw [Bool.eq_false_iff.mpr z3] at k'
        exact k' H (Same.refl H)
    · have z2 : ¬ ((tx n c).length : Int) ≤ 12 := fun y => z2 (decide_eq_true y)
      rw [en] at z2
      exact no (by omega)
  · have z : ¬ (1 : Int) ≤ ((tx n c).length : Int) := fun y => z (decide_eq_true y)
    rw [en] at z
    exact ⟨_, rfl, iteF (no (by omega))⟩
theorem st_name {fs fi fl fg : Addr} {gs gi gl gg : FuncData} (Ds : Df K mg "_law_same" s_same Ps fs gs) (Di : Df K mg "is_name" s_isname ["name"] fi gi) (Dl : Df K mg "is_letter" s_letter ["sign"] fl gl) (Dg : Df K mg "is_figure" s_figure ["sign"] fg gg)
    (T : Xs K mg W BC BS fW fC fS gW gC gS) (B : Bt mg) (hr : Room 7 (A.deeper (envOfC "law" (defScope s_law) s.heap.objs.size f (.ref cc)))) :
    PS (XL P w K mg base f cc A outer s H0 E0') (b_law 8) (fun D σ H => ∃ (v0 v1 v3 v4 v5 v7 v8 v9 v10 v11 v12 : Option V) (n : Nat) (c : Nat → Nat), σ = [v0, v1, some (.str (tx n c)), v3, v4, v5, some (.bl (nameA n c)), v7, v8, v9, v10, v11, v12] ∧ n ≤ 1000 ∧ ∀ H', Same H H' → D.nx σ H') := by
  refine ps_weak (ps_if (pt_not (pt_val (pe_fn Ds (ok_same Ds B 2) (hr.mono (by decide)) passN (pa_cons (pe_fn Di (ok_isname Di Dl Dg T B) (hr.mono (by decide)) passN (pa_cons (pv 2) pa_nil)) (pa_cons (pv 6) pa_nil))))) (pss_one (ps_ret pe_bl)) pss_nil) ?_
  rintro D σ H ⟨v0, v1, v3, v4, v5, v7, v8, v9, v10, v11, v12, n, c, rfl, hn, k⟩
  refine ⟨_, rfl, n, c, rfl, hn, fun H1 s1 => ⟨_, rfl, _, _, _, _, rfl, .bl _, .bl _, Nat.zero_le _, fun H2 s2 => ⟨_, rfl, ?_⟩⟩⟩
  have e : (Dt.bl (nameA n c)).eqb (.bl (nameA n c)) = true := beq_self_eq_true (nameA n c)
  rw [e]
  exact iteF (k H2 (s1.trans' s2))
theorem dec_int (a b : Int) : decide (V.int a = V.int b) = decide (a = b) := decide_eq_decide.mpr ⟨fun z => by injection z, fun z => by rw [z]⟩
theorem st_fits (B : Bt mg) : PS (XL P w K mg base f cc A outer s H0 E0') (b_law 9) (fun D σ H => ∃ (v0 v1 v3 v5 v6 v7 v8 v9 v10 v11 v12 : Option V) (n : Nat) (c : Nat → Nat) (q : Int), σ = [v0, v1, some (.str (tx n c)), v3, some (.int q), v5, v6, v7, v8, v9, v10, v11, v12] ∧ n ≤ 1000 ∧
      D.nx [v0, v1, some (.str (tx n c)), v3, some (.int q), v5, v6, some (.bl (decide ((n : Int) = q))), v8, v9, v10, v11, v12] H) := by
  refine ps_weak (ps_set (i := 7) sc_law.nd rfl (Or.inl rfl) (pe_cmpR op_eq (pe_callB call_len_str (by rfl) B.len PySem.boot_len (pa_cons (pv 2) pa_nil)) (pv 4) (nomark _))) ?_
  rintro D σ H ⟨v0, v1, v3, v5, v6, v7, v8, v9, v10, v11, v12, n, c, q, rfl, hn, k⟩
  refine ⟨_, rfl, _, rfl, small_tx _ _ hn, _, rfl, rfl, ?_⟩
  rw [tx_len, dec_int]
  exact k
theorem row_of {n : Nat} {c : Nat → Nat} {q : Int} {z : Str} : (decide ((n : Int) = q) = true → rowA n c q z = allN n fun i => inS z (c i)) ∧ (¬ decide ((n : Int) = q) = true → rowA n c q z = false) :=
  ⟨fun h => by unfold rowA; rw [h, Bool.true_and], fun h => by unfold rowA; rw [Bool.eq_false_iff.mpr h, Bool.false_and]⟩
theorem st_row {fo : Addr} {go : FuncData} (Do : Df K mg "_law_of" s_of Pof fo go) (B : Bt mg) (hr : Room 7 (A.deeper (envOfC "law" (defScope s_law) s.heap.objs.size f (.ref cc)))) :
    PS (XL P w K mg base f cc A outer s H0 E0') (b_law 10) (fun D σ H => ∃ (v0 v1 v3 v4 v5 v6 v8 v9 v10 v11 v12 : Option V) (n : Nat) (c : Nat → Nat) (q : Int), σ = [v0, v1, some (.str (tx n c)), v3, v4, v5, v6, some (.bl (decide ((n : Int) = q))), v8, v9, v10, v11, v12] ∧ n ≤ 1000 ∧
      ∀ H' x, Same H H' → Den K H' x (.tup [.str "told", .bl (rowA n c q "ny")]) → D.nx [v0, v1, some (.str (tx n c)), v3, v4, v5, v6, some (.bl (decide ((n : Int) = q))), some x, v9, v10, v11, v12] H') := by
  refine ps_weak (ps_set (i := 8) sc_law.nd rfl (Or.inl rfl) (pe_tup (pa_cons pe_str (pa_cons (pe_and (pv 7) (pe_one (pe_fn Do (ok_of Do B) (hr.mono (by decide)) passN (pa_cons (pv 2) (pa_cons pe_str pa_nil))))) pa_nil)))) ?_
  rintro D σ H ⟨v0, v1, v3, v4, v5, v6, v8, v9, v10, v11, v12, n, c, q, rfl, hn, k⟩
  refine ⟨_, rfl, _, rfl, ite2 (fun z => ?_) (fun z => ?_)⟩
  · refine ⟨_, rfl, n, c, "yn", rfl, hn, fun H1 s1 => ⟨len_le (show 2 ≤ 100 by decide), fun p hp => ?_⟩⟩
    refine k _ _ (s1.trans' (Same.new hp)) ?_
    rw [← row_yn, row_of.1 z]
    exact den_t2 upd_same (.str _) (.bl _)
  · refine ⟨len_le (show 2 ≤ 100 by decide), fun p hp => ?_⟩
    refine k _ _ (Same.new hp) ?_
    rw [← row_yn, row_of.2 z]
    exact den_t2 upd_same (.str _) (.bl _)
theorem st_pat {fo : Addr} {go : FuncData} (Do : Df K mg "_law_of" s_of Pof fo go) (B : Bt mg) (hr : Room 7 (A.deeper (envOfC "law" (defScope s_law) s.heap.objs.size f (.ref cc)))) :
    PS (XL P w K mg base f cc A outer s H0 E0') (b_law 11) (fun D σ H => ∃ (v0 v1 v3 v4 v5 v6 v8 v9 v10 v11 v12 : Option V) (n : Nat) (c : Nat → Nat) (q : Int), σ = [v0, v1, some (.str (tx n c)), v3, v4, v5, v6, some (.bl (decide ((n : Int) = q))), v8, v9, v10, v11, v12] ∧ n ≤ 1000 ∧
      ∀ H' x, Same H H' → Den K H' x (.tup [.str "told", .bl (rowA n c q "ny-")]) → D.nx [v0, v1, some (.str (tx n c)), v3, v4, v5, v6, some (.bl (decide ((n : Int) = q))), v8, some x, v10, v11, v12] H') := by
  refine ps_weak (ps_set (i := 9) sc_law.nd rfl (Or.inl rfl) (pe_tup (pa_cons pe_str (pa_cons (pe_and (pv 7) (pe_one (pe_fn Do (ok_of Do B) (hr.mono (by decide)) passN (pa_cons (pv 2) (pa_cons pe_str pa_nil))))) pa_nil)))) ?_
  rintro D σ H ⟨v0, v1, v3, v4, v5, v6, v8, v9, v10, v11, v12, n, c, q, rfl, hn, k⟩
  refine ⟨_, rfl, _, rfl, ite2 (fun z => ?_) (fun z => ?_)⟩
  · refine ⟨_, rfl, n, c, "yn-", rfl, hn, fun H1 s1 => ⟨len_le (show 2 ≤ 100 by decide), fun p hp => ?_⟩⟩
    refine k _ _ (s1.trans' (Same.new hp)) ?_
    rw [← row_ynd, row_of.1 z]
    exact den_t2 upd_same (.str _) (.bl _)
  · refine ⟨len_le (show 2 ≤ 100 by decide), fun p hp => ?_⟩
    refine k _ _ (Same.new hp) ?_
    rw [← row_ynd, row_of.2 z]
    exact den_t2 upd_same (.str _) (.bl _)
theorem st_bad : PS (XL P w K mg base f cc A outer s H0 E0') (b_law 12) (fun D σ H => ∃ (v0 v1 v2 v3 v5 v6 v7 v10 v11 v12 : Option V) (x y : V) (q : Int) (b1 b2 : Bool), σ = [v0, v1, v2, v3, some (.int q), v5, v6, v7, some x, some y, v10, v11, v12] ∧ Den K H x (.tup [.str "told", .bl b1]) ∧ Den K H y (.tup [.str "told", .bl b2]) ∧
      ∀ H' x' y', Same H H' → Den K H' x' (dRow q b1) → Den K H' y' (dRow q b2) → D.nx [v0, v1, v2, v3, some (.int q), v5, v6, v7, some x', some y', v10, v11, v12] H') := by
  refine ps_weak (ps_if (PW.pt (pw_or (pt_cmpR op_lt (pv 4) pe_int (nomark _)) (pw_or1 (pt_cmpR op_gt (pv 4) pe_int (nomark _))))) (pss_cons (ps_set (i := 8) sc_law.nd rfl (Or.inl rfl) (pe_tup (pa_cons pe_str pa_nil))) (pss_one (ps_set (i := 9) sc_law.nd rfl (Or.inl rfl) (pe_tup (pa_cons pe_str pa_nil))))) pss_nil) ?_
  rintro D σ H ⟨v0, v1, v2, v3, v5, v6, v7, v10, v11, v12, x, y, q, b1, b2, rfl, dx, dy, k⟩
  have bad : ¬ (1 ≤ q ∧ q ≤ 12) → ∀ p1 p2, H p1 = none → upd H p1 (.tup [.str "bad count"]) p2 = none → D.nx [v0, v1, v2, v3, some (.int q), v5, v6, v7, some (.ref p1), some (.ref p2), v10, v11, v12] (upd (upd H p1 (.tup [.str "bad count"])) p2 (.tup [.str "bad count"])) := fun hq p1 p2 h1 h2 => by
    refine k _ _ _ ((Same.new h1).trans' (Same.new h2)) ?_ ?_
    · rw [show dRow q b1 = _ from if_neg hq]
      exact den_t1 (Same.new h2 p1 _ upd_same) (.str _)
    · rw [show dRow q b2 = _ from if_neg hq]
      exact den_t1 upd_same (.str _)
  refine ⟨_, rfl, _, _, rfl, rfl, _, rfl, ite2 (fun z => ?_) (fun z => ?_)⟩
  · have z : q < 1 := of_decide_eq_true z
    exact iteT ⟨len_le (show 1 ≤ 100 by decide), fun p1 h1 => ⟨len_le (show 1 ≤ 100 by decide), fun p2 h2 => bad (by omega) p1 p2 h1 h2⟩⟩
  · have z : ¬ q < 1 := fun y => z (decide_eq_true y)
    refine ⟨_, rfl, _, _, rfl, rfl, _, rfl, ite2 (fun z2 => ?_) (fun z2 => ?_)⟩
    · have z2 : 12 < q := of_decide_eq_true z2
      exact ⟨len_le (show 1 ≤ 100 by decide), fun p1 h1 => ⟨len_le (show 1 ≤ 100 by decide), fun p2 h2 => bad (by omega) p1 p2 h1 h2⟩⟩
    · have z2 : ¬ 12 < q := fun y => z2 (decide_eq_true y)
      refine k H x y (Same.refl H) ?_ ?_
      · rw [show dRow q b1 = _ from if_pos (show 1 ≤ q ∧ q ≤ 12 by omega)]; exact dx
      · rw [show dRow q b2 = _ from if_pos (show 1 ≤ q ∧ q ≤ 12 by omega)]; exact dy
end
end K01
set_option Elab.async false
set_option linter.all false
set_option maxRecDepth 100000
set_option maxHeartbeats 1000000
namespace K01
open PySem L2
open PyProof.Rows (envOfC)
theorem cut_ints (xs : List Int) (lo hi : Option Int) : ∃ ys : List Int, cutV (xs.map V.int) lo hi = ys.map V.int ∧ ys.length ≤ xs.length := by
  unfold cutV
  rw [← List.map_drop, ← List.map_take]
  refine ⟨_, rfl, ?_⟩
  rw [List.length_take, List.length_drop]
  omega
section
variable {P : Program} {w : World} {K : PySem.W.Frag} {mg : Str → Option Value} {base : Heap} {W BC BS fW fC fS : Addr} {gW gC gS : FuncData}
variable {f cc Pt : Addr} {A : Around} {outer : List Env} {s : Shared} {H0 : Hp} {E0' : XK}
theorem TabOk.ne {H : Hp} {b : Addr} {o : HO} (t : TabOk H Pt qL) (e : H b = some o) (n : ∀ ps, o ≠ .tbl ps) : b ≠ Pt := fun z => by
  obtain ⟨ps, hp, _⟩ := t.ex
  rw [z, hp] at e; cases e; exact n _ rfl
theorem st_loop {fs fw fo fc : Addr} {gs gw go gc : FuncData} (Ds : Df K mg "_law_same" s_same Ps fs gs) (Dw : Df K mg "_law_word" s_word ["_law_asked"] fw gw) (Do : Df K mg "other" s_other ["sign"] fo go) (Dc : Df K mg "check_sign" s_csign ["sign"] fc gc)
    (T : Xs K mg W BC BS fW fC fS gW gC gS) (B : Bt mg) (C : PySem.W.CodeHd base cc Pt) (BM : BMain mg base) (hr : Room 7 (A.deeper (envOfC "law" (defScope s_law) s.heap.objs.size f (.ref cc)))) :
    PS (XL P w K mg base f cc A outer s H0 E0') (b_law 16) (fun D σ H => TabOk H Pt qL ∧ ∃ (v0 v1 v3 v4 v5 v6 v7 v8 v9 v11 v12 : Option V) (y : Str) (d : Addr), σ = [v0, v1, some (.str y), v3, v4, v5, v6, v7, v8, v9, some (.ref d), v11, v12] ∧ H d = some (.dK oths) ∧ y.length ≤ 100 ∧ ∀ σ' H', D.nx σ' H') := by
  refine ps_weak (ps_for PassesOwn.never rfl (pi_tup (pe_tup (pa_cons pe_str (pa_cons pe_str (pa_cons (pv 2) (pa_cons (pe_slice sl_str (pv 2) po_none (po_some pe_int)) pa_nil)))))) (pg_name (i := 11) sc_law.nd rfl (Or.inr rfl))
    (pss_cons (set_answer hr) (pss_one (if_sign Ds Dw Do Dc T B C BM hr)))) ?_
  rintro D σ H ⟨TT, v0, v1, v3, v4, v5, v6, v7, v8, v9, v11, v12, y, d, rfl, hd, hy, k⟩
  refine ⟨_, rfl, _, rfl, _, rfl, y, rfl, Nat.le_trans hy (by decide), fun y1 _ => ⟨len_le (show 4 ≤ 100 by decide), fun tp htp => ?_⟩⟩
  have T1 := TT.same (Same.new (o := .tup [.str "y", .str "n", .str y, .str y1]) htp)
  have d1 := Same.new (o := .tup [.str "y", .str "n", .str y, .str y1]) htp d _ hd
  have nt : tp ≠ Pt := TabOk.ne (o := .tup [.str "y", .str "n", .str y, .str y1]) T1 upd_same fun ps z => by cases z
  have nd : d ≠ Pt := TabOk.ne TT hd fun ps z => by cases z
  refine ⟨tp, rfl, ⟨_, .inl (.inl upd_same)⟩, for_tup (K := K) (a := tp) (xs := [.str "y", .str "n", .str y, .str y1])
    (fun i σ H2 => ∃ v11 v12, σ = [v0, v1, some (.str y), v3, v4, v5, v6, v7, v8, v9, some (.ref d), v11, v12] ∧ TabOk H2 Pt qL ∧ SameP Pt (upd H tp (.tup [.str "y", .str "n", .str y, .str y1])) H2) ⟨v11, v12, rfl, T1, SameP.refl _ _⟩
    (fun i σ H2 _ ⟨_, _, _, _, s2⟩ => .inl (.inl (s2 tp _ nt upd_same))) ?_ fun σ H2 _ => k _ _⟩
  rintro i x σ H2 hi ⟨v11, v12, rfl, T2, s2⟩
  obtain ⟨z, rfl⟩ : ∃ z : Str, x = .str z := by
    match i, hi with
    | 0, hi => cases hi; exact ⟨_, rfl⟩
    | 1, hi => cases hi; exact ⟨_, rfl⟩
    | 2, hi => cases hi; exact ⟨_, rfl⟩
    | 3, hi => cases hi; exact ⟨_, rfl⟩
    | _ + 4, hi => cases hi
  refine ⟨v0, v1, some (.str y), v3, v4, v5, v6, v7, v8, v9, v12, d, z, rfl, s2 d _ nd d1, fun H3 x s3 dx => ?_⟩
  exact ⟨T2.same s3, ⟨z, _, _, _, _, _, _, _, _, _, _, _, x, rfl, dx⟩, fun H4 s4 T4 => ⟨_, _, rfl, T4, s2.trans ((SameP.of s3).trans s4)⟩⟩
def spLaw (K : PySem.W.Frag) (Pt : Addr) : Sp := fun vs H Q _ => ∃ (a : Addr) (ns : List Int), vs = [.ref a] ∧ SqL K H a (ns.map V.int) ∧ ns.length ≤ 63 ∧ H Pt = some (.tbl #[]) ∧ ∀ H', Q (.bl true) H'
theorem ok_law {oc kV doc pm ct : Value} {od an : Option Addr} {osl : Array (Option Value)} {fr fc fs fw ft fsg fof fi fl fg frw fpt fcc fon fot fcs : Addr} {gr gc gs gw gt gsg gof gi gl gg grw gpt gcc gon got gcs : FuncData}
    (lk : K.lookup f = some ⟨oc, od, .func (PySem.W.fnOf "law" "law" (defArgs s_law) (defBody s_law) (defScope s_law) .none kV doc pm an (.ref cc) ct), osl⟩) (hcd : PySem.W.codeIn K (.ref cc) "law" = true)
    (Dr : Df K mg "_law_draws" s_draws Pdr fr gr) (Dc : Df K mg "_law_cell" s_cell ["_law_script", "_law_k"] fc gc) (Ds : Df K mg "_law_same" s_same Ps fs gs) (Dw : Df K mg "_law_word" s_word ["_law_asked"] fw gw)
    (Dt : Df K mg "_law_text" s_text Pte ft gt) (Dsg : Df K mg "_law_signs" s_signs ["_law_kind"] fsg gsg) (Dof : Df K mg "_law_of" s_of Pof fof gof) (Di : Df K mg "is_name" s_isname ["name"] fi gi) (Dl : Df K mg "is_letter" s_letter ["sign"] fl gl) (Dg : Df K mg "is_figure" s_figure ["sign"] fg gg)
    (Drw : Df K mg "is_row" s_isrow Prow frw grw) (Dpt : Df K mg "is_pattern" s_ispat Ppat fpt gpt) (Dcc : Df K mg "check_count" s_ccount ["questions"] fcc gcc) (Don : Df K mg "only_of" s_only Pon fon gon) (Dot : Df K mg "other" s_other ["sign"] fot got) (Dcs : Df K mg "check_sign" s_csign ["sign"] fcs gcs)
    (T : Xs K mg W BC BS fW fC fS gW gC gS) (B : Bt mg) (C : PySem.W.CodeHd base cc Pt) (BM : BMain mg base) :
    FnOk P w K mg base (CXE P w) 8 f (PySem.W.fnOf "law" "law" (defArgs s_law) (defBody s_law) (defScope s_law) .none kV doc pm an (.ref cc) ct) ["_law_script"] (spLaw K Pt) := by
  refine fn_of lk hcd sc_law (fun vs H Q E h => ?_) fun A outer s H vs Q E hr h => ?_
  · obtain ⟨a, ns, rfl, _⟩ := h
    rfl
  obtain ⟨a, ns, rfl, hS, hl, hP, k⟩ := h
  suffices hsuff : ∃ t, PSs (XL P w K mg base f cc A outer s H E) (defBody s_law) t ∧ t { nx := fun _ H' => Q .non H', rt := Q } (start NL [.ref a]) H by
    obtain ⟨t, h1, h2⟩ := hsuff
    exact ⟨t, h1.nox, h2⟩
  refine ⟨_, pss_cons (ps_set (i := 0) sc_law.nd rfl (Or.inl rfl) (pe_slice sl_list (pv 0) po_none (po_some pe_int)))
    (pss_cons (ps_set (i := 1) sc_law.nd rfl (Or.inl rfl) (pe_fn Dr (ok_draws Dr B) (hr.mono (by decide)) passN (pa_cons (pe_fn Dc (ok_cell Dc B) (hr.mono (by decide)) passN (pa_cons (pv 0) (pa_cons pe_int pa_nil))) (pa_cons (pe_lst (pa_cons pe_int (pa_cons pe_int (pa_cons pe_int (pa_cons pe_int (pa_cons pe_int pa_nil)))))) pa_nil))))
    (pss_cons (ps_set (i := 2) sc_law.nd rfl (Or.inr rfl) (pe_fn Dt (ok_text Dt Dr Dc Dsg B) (hr.mono (by decide)) passN (pa_cons (pv 0) (pa_cons (pe_ix ix_list (pv 1) pe_int (fun _ _ => rfl)) (pa_cons (pe_ix ix_list (pv 1) pe_int (fun _ _ => rfl)) pa_nil)))))
    (pss_cons (st_text Dsg B hr) (pss_cons (st_count Dr Dc B hr) (pss_cons st_huge
    (pss_cons (ps_set (i := 5) sc_law.nd rfl (Or.inl rfl) pe_str)
    (pss_cons (st_due Dof B hr) (pss_cons (st_name Ds Di Dl Dg T B hr) (pss_cons (st_fits B) (pss_cons (st_row Dof B hr) (pss_cons (st_pat Dof B hr) (pss_cons st_bad
    (pss_cons (if_row Ds Dw Drw Dcc Don T B C BM hr) (pss_cons (if_pat Ds Dw Dpt Dcc Don T B C BM hr)
    (pss_cons (ps_set (i := 10) sc_law.nd rfl (Or.inl rfl) (pe_disp (pps_cons pe_str pe_str (pps_cons pe_str pe_str pps_nil)) (by rfl) (by rfl) (by simp) (by decide)))
    (pss_cons (st_loop Ds Dw Dot Dcs T B C BM hr)
    (pss_one (ps_ret pe_bl)))))))))))))))))), ?_⟩
  have T0 : TabOk H Pt qL := ⟨#[], hP, True.intro, fun pos cv z => by cases z⟩
  refine ⟨_, rfl, _, rfl, a, _, rfl, hS, fun p hp => ?_⟩
  obtain ⟨ms, em, lm⟩ := cut_ints ns none (some 63)
  rw [em]
  have s1 := Same.new (o := .lst (ms.map V.int)) hp
  refine ⟨_, rfl, p, ms, 0, rfl, SqL.of upd_same, len_le (show 5 ≤ 100 by decide), fun t ht => ?_⟩
  refine ⟨_, t, [7, 15, 23, 9, 97], rfl, SqL.of upd_same, by decide, by decide, fun u H3 s3 hu e3 => ?_⟩
  generalize hm : mixM (cellM ms 0) = m at e3
  obtain ⟨d2, d3, d4, e3⟩ : ∃ d2 d3 d4 : Int, H3 u = some (.lst [.int (m % 7), .int (m / 7 % 15), .int d2, .int d3, .int d4]) := ⟨_, _, _, by rw [e3, ← hm]; rfl⟩
  have s13 := (Same.new (o := .lst ([7, 15, 23, 9, 97].map V.int)) ht).trans' s3
  have ep := s13 p _ upd_same
  have m7 : 0 ≤ m % 7 ∧ m % 7 < 7 := ⟨Int.emod_nonneg _ (by decide), Int.emod_lt_of_pos _ (by decide)⟩
  have m15 : 0 ≤ m / 7 % 15 ∧ m / 7 % 15 < 15 := ⟨Int.emod_nonneg _ (by decide), Int.emod_lt_of_pos _ (by decide)⟩
  obtain ⟨n, hn⟩ : ∃ n : Nat, m / 7 % 15 = n := ⟨(m / 7 % 15).toNat, by omega⟩
  refine ⟨_, rfl, _, rfl, u, _, _, _, rfl, rfl, SqL.of e3, rfl, _, rfl, u, _, _, _, rfl, rfl, SqL.of e3, rfl, p, ms, m % 7, n, by rw [hn]; rfl, SqL.of ep, m7.1, m7.2, by omega, fun y H4 hy s4 => ?_⟩
  refine ⟨_, _, _, _, _, _, _, _, _, _, _, u, _, _, _, _, _, y, rfl, s4 u _ e3, by omega, fun H5 y5 v3 hy5 s5 => ?_⟩
  refine ⟨_, _, _, _, _, _, _, _, _, _, p, u, ms, _, _, _, _, _, y5, rfl, s5.seq (s4.seq (SqL.of ep)), s5 u _ (s4 u _ e3), hy5, fun H6 q6 s6 => ?_⟩
  refine ⟨_, _, _, _, _, _, _, _, _, _, _, u, _, _, _, _, _, q6, rfl, s6 u _ (s5 u _ (s4 u _ e3)), fun q => ?_⟩
  rw [all_tx y5]
  generalize (fun i => y5.cps.getD i 0) = c
  generalize hN : y5.length = N at hy5
  have T6 := T0.same (s1.trans' (s13.trans' (s4.trans' (s5.trans' s6))))
  refine ⟨_, _, _, _, _, _, _, _, _, _, _, N, c, rfl, hy5, fun H7 s7 => ?_⟩
  refine ⟨_, _, _, _, _, _, _, _, _, _, _, N, c, rfl, by omega, fun H8 s8 => ?_⟩
  refine ⟨_, _, _, _, _, _, _, _, _, _, _, N, c, q, rfl, by omega, ?_⟩
  refine ⟨_, _, _, _, _, _, _, _, _, _, _, N, c, q, rfl, by omega, fun H9 x9 s9 dx => ?_⟩
  refine ⟨_, _, _, _, _, _, _, _, _, _, _, N, c, q, rfl, by omega, fun H10 y10 s10 dy => ?_⟩
  refine ⟨_, _, _, _, _, _, _, _, _, _, x9, y10, q, _, _, rfl, dx.mono s10, dy, fun H11 x11 y11 s11 dx11 dy11 => ?_⟩
  have T11 := T6.same (s7.trans' (s8.trans' (s9.trans' (s10.trans' s11))))
  refine ⟨T11, ⟨N, c, q, _, by omega, _, _, _, _, _, _, _, _, _, x11, y11, rfl, dx11, dy11⟩, fun H12 s12 T12 => ?_⟩
  refine ⟨T12, ⟨N, c, q, _, by omega, _, _, _, _, _, _, _, _, _, x11, y11, rfl, SameP.den T11 s12 dx11, SameP.den T11 s12 dy11⟩, fun H13 s13 T13 => ?_⟩
  refine fun d hd => ⟨upd_same, oths, rfl, by decide, ?_⟩
  have T14 := T13.same (Same.grow (o := .dK (mergeK [] oths)) hd (Same.new (o := .dK []) hd))
  refine ⟨T14, _, _, _, _, _, _, _, _, _, _, _, _, d, rfl, upd_same, by rw [tx_len]; exact hy5, fun σ' H' => ?_⟩
  exact k H'
end
end K01
set_option Elab.async false
set_option linter.all false
set_option maxRecDepth 100000
set_option maxHeartbeats 1000000
namespace K01
open PySem L2
theorem all_mk {l : PySem.W.OpenLaw} {w : World} {K : PySem.W.Frag} {h : Heap} {mg : Str → Option Value} {fa fL cc Pt f1 f2 f3 f4 f5 f6 f7 f8 f9 f10 f11 f12 f13 f14 f15 f16 : Addr} (X : K.In h) (G : h.Ns mainGlobals mg) (hfa : mg "law" = some (.ref fa))
    {odL anL od1 an1 od2 an2 od3 an3 od4 an4 od5 an5 od6 an6 od7 an7 od8 an8 od9 an9 od10 an10 od11 an11 od12 an12 od13 an13 od14 an14 od15 an15 od16 an16 : Option Addr} {slL sl1 sl2 sl3 sl4 sl5 sl6 sl7 sl8 sl9 sl10 sl11 sl12 sl13 sl14 sl15 sl16 : Array (Option Value)} {ocL kVL dcL pmL ctL oc1 kV1 dc1 pm1 cd1 ct1 oc2 kV2 dc2 pm2 cd2 ct2 oc3 kV3 dc3 pm3 cd3 ct3 oc4 kV4 dc4 pm4 cd4 ct4 oc5 kV5 dc5 pm5 cd5 ct5 oc6 kV6 dc6 pm6 cd6 ct6 oc7 kV7 dc7 pm7 cd7 ct7 oc8 kV8 dc8 pm8 cd8 ct8 oc9 kV9 dc9 pm9 cd9 ct9 oc10 kV10 dc10 pm10 cd10 ct10 oc11 kV11 dc11 pm11 cd11 ct11 oc12 kV12 dc12 pm12 cd12 ct12 oc13 kV13 dc13 pm13 cd13 ct13 oc14 kV14 dc14 pm14 cd14 ct14 oc15 kV15 dc15 pm15 cd15 ct15 oc16 kV16 dc16 pm16 cd16 ct16 : Value}
    (aL : PySem.W.nsIn K mainGlobals "law" = some (some (.ref fL))) (lL : K.lookup fL = some ⟨ocL, odL, .func (PySem.W.fnOf "law" "law" (defArgs s_law) (defBody s_law) (defScope s_law) .none kVL dcL pmL anL (.ref cc) ctL), slL⟩) (cL : PySem.W.codeIn K (.ref cc) "law" = true)
    {oC : Value} {dC : Option Addr} {vC : Array Value} {sC : Array (Option Value)} (lC : K.lookup cc = some ⟨oC, dC, .fields vC, sC⟩) (hC : vC[11]? = some (.ref Pt)) (hH : PySem.W.codeHdIn K cc Pt = true)
    (a1 : PySem.W.nsIn K mainGlobals "check_count" = some (some (.ref f1))) (l1 : K.lookup f1 = some ⟨oc1, od1, .func (PySem.W.fnOf "check_count" "check_count" (defArgs s_ccount) (defBody s_ccount) (defScope s_ccount) .none kV1 dc1 pm1 an1 cd1 ct1), sl1⟩) (c1 : PySem.W.codeIn K cd1 "check_count" = true) (k1 : PySem.W.keepIn K (.ref f1) = true)
    (a2 : PySem.W.nsIn K mainGlobals "check_sign" = some (some (.ref f2))) (l2 : K.lookup f2 = some ⟨oc2, od2, .func (PySem.W.fnOf "check_sign" "check_sign" (defArgs s_csign) (defBody s_csign) (defScope s_csign) .none kV2 dc2 pm2 an2 cd2 ct2), sl2⟩) (c2 : PySem.W.codeIn K cd2 "check_sign" = true) (k2 : PySem.W.keepIn K (.ref f2) = true)
    (a3 : PySem.W.nsIn K mainGlobals "other" = some (some (.ref f3))) (l3 : K.lookup f3 = some ⟨oc3, od3, .func (PySem.W.fnOf "other" "other" (defArgs s_other) (defBody s_other) (defScope s_other) .none kV3 dc3 pm3 an3 cd3 ct3), sl3⟩) (c3 : PySem.W.codeIn K cd3 "other" = true) (k3 : PySem.W.keepIn K (.ref f3) = true)
    (a4 : PySem.W.nsIn K mainGlobals "is_row" = some (some (.ref f4))) (l4 : K.lookup f4 = some ⟨oc4, od4, .func (PySem.W.fnOf "is_row" "is_row" (defArgs s_isrow) (defBody s_isrow) (defScope s_isrow) .none kV4 dc4 pm4 an4 cd4 ct4), sl4⟩) (c4 : PySem.W.codeIn K cd4 "is_row" = true) (k4 : PySem.W.keepIn K (.ref f4) = true)
    (a5 : PySem.W.nsIn K mainGlobals "is_pattern" = some (some (.ref f5))) (l5 : K.lookup f5 = some ⟨oc5, od5, .func (PySem.W.fnOf "is_pattern" "is_pattern" (defArgs s_ispat) (defBody s_ispat) (defScope s_ispat) .none kV5 dc5 pm5 an5 cd5 ct5), sl5⟩) (c5 : PySem.W.codeIn K cd5 "is_pattern" = true) (k5 : PySem.W.keepIn K (.ref f5) = true)
    (a6 : PySem.W.nsIn K mainGlobals "only_of" = some (some (.ref f6))) (l6 : K.lookup f6 = some ⟨oc6, od6, .func (PySem.W.fnOf "only_of" "only_of" (defArgs s_only) (defBody s_only) (defScope s_only) .none kV6 dc6 pm6 an6 cd6 ct6), sl6⟩) (c6 : PySem.W.codeIn K cd6 "only_of" = true) (k6 : PySem.W.keepIn K (.ref f6) = true)
    (a7 : PySem.W.nsIn K mainGlobals "is_name" = some (some (.ref f7))) (l7 : K.lookup f7 = some ⟨oc7, od7, .func (PySem.W.fnOf "is_name" "is_name" (defArgs s_isname) (defBody s_isname) (defScope s_isname) .none kV7 dc7 pm7 an7 cd7 ct7), sl7⟩) (c7 : PySem.W.codeIn K cd7 "is_name" = true) (k7 : PySem.W.keepIn K (.ref f7) = true)
    (a8 : PySem.W.nsIn K mainGlobals "is_letter" = some (some (.ref f8))) (l8 : K.lookup f8 = some ⟨oc8, od8, .func (PySem.W.fnOf "is_letter" "is_letter" (defArgs s_letter) (defBody s_letter) (defScope s_letter) .none kV8 dc8 pm8 an8 cd8 ct8), sl8⟩) (c8 : PySem.W.codeIn K cd8 "is_letter" = true) (k8 : PySem.W.keepIn K (.ref f8) = true)
    (a9 : PySem.W.nsIn K mainGlobals "is_figure" = some (some (.ref f9))) (l9 : K.lookup f9 = some ⟨oc9, od9, .func (PySem.W.fnOf "is_figure" "is_figure" (defArgs s_figure) (defBody s_figure) (defScope s_figure) .none kV9 dc9 pm9 an9 cd9 ct9), sl9⟩) (c9 : PySem.W.codeIn K cd9 "is_figure" = true) (k9 : PySem.W.keepIn K (.ref f9) = true)
    (a10 : PySem.W.nsIn K mainGlobals "_law_cell" = some (some (.ref f10))) (l10 : K.lookup f10 = some ⟨oc10, od10, .func (PySem.W.fnOf "_law_cell" "_law_cell" (defArgs s_cell) (defBody s_cell) (defScope s_cell) .none kV10 dc10 pm10 an10 cd10 ct10), sl10⟩) (c10 : PySem.W.codeIn K cd10 "_law_cell" = true) (k10 : PySem.W.keepIn K (.ref f10) = true)
    (a11 : PySem.W.nsIn K mainGlobals "_law_draws" = some (some (.ref f11))) (l11 : K.lookup f11 = some ⟨oc11, od11, .func (PySem.W.fnOf "_law_draws" "_law_draws" (defArgs s_draws) (defBody s_draws) (defScope s_draws) .none kV11 dc11 pm11 an11 cd11 ct11), sl11⟩) (c11 : PySem.W.codeIn K cd11 "_law_draws" = true) (k11 : PySem.W.keepIn K (.ref f11) = true)
    (a12 : PySem.W.nsIn K mainGlobals "_law_same" = some (some (.ref f12))) (l12 : K.lookup f12 = some ⟨oc12, od12, .func (PySem.W.fnOf "_law_same" "_law_same" (defArgs s_same) (defBody s_same) (defScope s_same) .none kV12 dc12 pm12 an12 cd12 ct12), sl12⟩) (c12 : PySem.W.codeIn K cd12 "_law_same" = true) (k12 : PySem.W.keepIn K (.ref f12) = true)
    (a13 : PySem.W.nsIn K mainGlobals "_law_word" = some (some (.ref f13))) (l13 : K.lookup f13 = some ⟨oc13, od13, .func (PySem.W.fnOf "_law_word" "_law_word" (defArgs s_word) (defBody s_word) (defScope s_word) .none kV13 dc13 pm13 an13 cd13 ct13), sl13⟩) (c13 : PySem.W.codeIn K cd13 "_law_word" = true) (k13 : PySem.W.keepIn K (.ref f13) = true)
    (a14 : PySem.W.nsIn K mainGlobals "_law_signs" = some (some (.ref f14))) (l14 : K.lookup f14 = some ⟨oc14, od14, .func (PySem.W.fnOf "_law_signs" "_law_signs" (defArgs s_signs) (defBody s_signs) (defScope s_signs) .none kV14 dc14 pm14 an14 cd14 ct14), sl14⟩) (c14 : PySem.W.codeIn K cd14 "_law_signs" = true) (k14 : PySem.W.keepIn K (.ref f14) = true)
    (a15 : PySem.W.nsIn K mainGlobals "_law_text" = some (some (.ref f15))) (l15 : K.lookup f15 = some ⟨oc15, od15, .func (PySem.W.fnOf "_law_text" "_law_text" (defArgs s_text) (defBody s_text) (defScope s_text) .none kV15 dc15 pm15 an15 cd15 ct15), sl15⟩) (c15 : PySem.W.codeIn K cd15 "_law_text" = true) (k15 : PySem.W.keepIn K (.ref f15) = true)
    (a16 : PySem.W.nsIn K mainGlobals "_law_of" = some (some (.ref f16))) (l16 : K.lookup f16 = some ⟨oc16, od16, .func (PySem.W.fnOf "_law_of" "_law_of" (defArgs s_of) (defBody s_of) (defScope s_of) .none kV16 dc16 pm16 an16 cd16 ct16), sl16⟩) (c16 : PySem.W.codeIn K cd16 "_law_of" = true) (k16 : PySem.W.keepIn K (.ref f16) = true)
    {XW iW NW : Addr} {nmW qnW : Str} {bsW bmW sbW : List Value} {snW : List Str} {abW : Bool} {coW : Option Bool} {ddW : Option Addr} {x0W x1W x2W x3W x5W : Option Value} {oiW kiW diW piW ciW tiW : Value} {ojW aiW : Option Addr} {siW : Array (Option Value)}
    (mW : PySem.W.nsIn K mainGlobals "WapentakeError" = some (some (.ref XW))) (oW : K.lookup XW = some (excClassObj nmW qnW XW NW bsW bmW true snW sbW abW coW ddW x0W x1W x2W x3W x5W "ValueError.__new__"))
    (vW : XBases bmW) (saW : PySem.W.findIn K (.ref XW) "__setattr__" = some (some (.builtin "object.__setattr__"))) (gaW : PySem.W.findIn K (.ref XW) "__getattribute__" = some (some (.builtin "BaseException.__getattribute__"))) (gnW : PySem.W.findIn K (.ref XW) "__getattr__" = some none) (nwW : PySem.W.findIn K (.ref XW) "word" = some none)
    (inW : PySem.W.findIn K (.ref XW) "__init__" = some (some (.ref iW))) (ifW : PySem.W.isFn K (.ref iW) = true) (kpW : PySem.W.keepIn K (.ref XW) = true) (liW : K.lookup iW = some ⟨oiW, ojW, .func (PySem.W.fnOf "__init__" "WapentakeError.__init__" (defArgs s_winit) (defBody s_winit) (defScope s_winit) .none kiW diW piW aiW ciW tiW), siW⟩) (cdW : PySem.W.codeIn K ciW "WapentakeError.__init__" = true) (keW : PySem.W.keepIn K (.ref iW) = true)
    {XC iC NC : Addr} {nmC qnC : Str} {bsC bmC sbC : List Value} {snC : List Str} {abC : Bool} {coC : Option Bool} {ddC : Option Addr} {x0C x1C x2C x3C x5C : Option Value} {oiC kiC diC piC ciC tiC : Value} {ojC aiC : Option Addr} {siC : Array (Option Value)}
    (mC : PySem.W.nsIn K mainGlobals "BadCount" = some (some (.ref XC))) (oC_ : K.lookup XC = some (excClassObj nmC qnC XC NC bsC bmC true snC sbC abC coC ddC x0C x1C x2C x3C x5C "ValueError.__new__"))
    (vC_ : XBases bmC) (saC : PySem.W.findIn K (.ref XC) "__setattr__" = some (some (.builtin "object.__setattr__"))) (gaC : PySem.W.findIn K (.ref XC) "__getattribute__" = some (some (.builtin "BaseException.__getattribute__"))) (gnC : PySem.W.findIn K (.ref XC) "__getattr__" = some none) (nwC : PySem.W.findIn K (.ref XC) "word" = some none)
    (inC : PySem.W.findIn K (.ref XC) "__init__" = some (some (.ref iC))) (ifC : PySem.W.isFn K (.ref iC) = true) (kpC : PySem.W.keepIn K (.ref XC) = true) (liC : K.lookup iC = some ⟨oiC, ojC, .func (PySem.W.fnOf "__init__" "BadCount.__init__" (defArgs s_cinit) (defBody s_cinit) (defScope s_cinit) .none kiC diC piC aiC ciC tiC), siC⟩) (cdC : PySem.W.codeIn K ciC "BadCount.__init__" = true) (keC : PySem.W.keepIn K (.ref iC) = true)
    {XS iS NS : Addr} {nmS qnS : Str} {bsS bmS sbS : List Value} {snS : List Str} {abS : Bool} {coS : Option Bool} {ddS : Option Addr} {x0S x1S x2S x3S x5S : Option Value} {oiS kiS diS piS ciS tiS : Value} {ojS aiS : Option Addr} {siS : Array (Option Value)}
    (mS : PySem.W.nsIn K mainGlobals "BadSign" = some (some (.ref XS))) (oS : K.lookup XS = some (excClassObj nmS qnS XS NS bsS bmS true snS sbS abS coS ddS x0S x1S x2S x3S x5S "ValueError.__new__"))
    (vS : XBases bmS) (saS : PySem.W.findIn K (.ref XS) "__setattr__" = some (some (.builtin "object.__setattr__"))) (gaS : PySem.W.findIn K (.ref XS) "__getattribute__" = some (some (.builtin "BaseException.__getattribute__"))) (gnS : PySem.W.findIn K (.ref XS) "__getattr__" = some none) (nwS : PySem.W.findIn K (.ref XS) "word" = some none)
    (inS : PySem.W.findIn K (.ref XS) "__init__" = some (some (.ref iS))) (ifS : PySem.W.isFn K (.ref iS) = true) (kpS : PySem.W.keepIn K (.ref XS) = true) (liS : K.lookup iS = some ⟨oiS, ojS, .func (PySem.W.fnOf "__init__" "BadSign.__init__" (defArgs s_sinit) (defBody s_sinit) (defScope s_sinit) .none kiS diS piS aiS ciS tiS), siS⟩) (cdS : PySem.W.codeIn K ciS "BadSign.__init__" = true) (keS : PySem.W.keepIn K (.ref iS) = true)
    (uC : (Value.ref XC :: bmC).contains (.ref XW) = true) (uS : (Value.ref XS :: bmS).contains (.ref XW) = true)
    (wg : PySem.W.specialIn K (.ref XW) "__getattribute__" = some (some (.builtin "type.__getattribute__"))) (wr : PySem.W.readsIn K XW (.type "type") = true) (wf : PySem.W.findCls K (.ref XW) (.type "type") "__init__" = some (.val (.ref iW)))
    {tq tn tg : Tok} (gg : PySem.W.nsIn K mainGlobals "SIGNS" = some (some (.str "ny" tg))) (gq : PySem.W.nsIn K mainGlobals "MOST_QUESTIONS" = some (some (.int 12 tq))) (gl : PySem.W.nsIn K mainGlobals "LONGEST_NAME" = some (some (.int 12 tn))) (gv : PySem.W.nsIn K mainGlobals "ValueError" = some none)
    (z0 : PySem.W.nsIn K mainGlobals "len" = some none) (z1 : PySem.W.nsIn K mainGlobals "range" = some none) (z2 : PySem.W.nsIn K mainGlobals "all" = some none) (z3 : PySem.W.nsIn K mainGlobals "zip" = some none) (z4 : PySem.W.nsIn K mainGlobals "abs" = some none) (z5 : PySem.W.nsIn K mainGlobals "int" = some none) (z6 : PySem.W.nsIn K mainGlobals "str" = some none) (z7 : PySem.W.nsIn K mainGlobals "bool" = some none) (z8 : PySem.W.nsIn K mainGlobals "list" = some none) (z9 : PySem.W.nsIn K mainGlobals "tuple" = some none) (z10 : PySem.W.nsIn K mainGlobals "isinstance" = some none) :
    ∃ fd : FuncData, (∀ (s : Shared) (v : Value), BindsTo s fd ⟨[v], []⟩ [("_law_script", v)]) ∧ fd.code = .ref cc ∧ ∀ base : Heap, K.In base → base.Ns mainGlobals mg → BMain mg base → FnOk l.prog w K mg base (CXE l.prog w) 8 fa fd ["_law_script"] (spLaw K Pt) := by
  have e := hfa.symm.trans (PySem.W.mg_of X G aL)
  cases e
  have B : Bt mg := ⟨PySem.W.mg_none_of X G z0, PySem.W.mg_none_of X G z1, PySem.W.mg_none_of X G z2, PySem.W.mg_none_of X G z3, PySem.W.mg_none_of X G z4, PySem.W.mg_none_of X G z5, PySem.W.mg_none_of X G z6, PySem.W.mg_none_of X G z7, PySem.W.mg_none_of X G z8, PySem.W.mg_none_of X G z9, PySem.W.mg_none_of X G z10⟩
  have D1 := df_mk (st := s_ccount) (ps := ["questions"]) X G a1 l1 c1 k1 fun _ _ _ _ _ _ us hl => match us, hl with | [_], _ => rfl
  have D2 := df_mk (st := s_csign) (ps := ["sign"]) X G a2 l2 c2 k2 fun _ _ _ _ _ _ us hl => match us, hl with | [_], _ => rfl
  have D3 := df_mk (st := s_other) (ps := ["sign"]) X G a3 l3 c3 k3 fun _ _ _ _ _ _ us hl => match us, hl with | [_], _ => rfl
  have D4 := df_mk (st := s_isrow) (ps := Prow) X G a4 l4 c4 k4 fun _ _ _ _ _ _ us hl => match us, hl with | [_, _], _ => rfl
  have D5 := df_mk (st := s_ispat) (ps := Ppat) X G a5 l5 c5 k5 fun _ _ _ _ _ _ us hl => match us, hl with | [_, _], _ => rfl
  have D6 := df_mk (st := s_only) (ps := Pon) X G a6 l6 c6 k6 fun _ _ _ _ _ _ us hl => match us, hl with | [_, _], _ => rfl
  have D7 := df_mk (st := s_isname) (ps := ["name"]) X G a7 l7 c7 k7 fun _ _ _ _ _ _ us hl => match us, hl with | [_], _ => rfl
  have D8 := df_mk (st := s_letter) (ps := ["sign"]) X G a8 l8 c8 k8 fun _ _ _ _ _ _ us hl => match us, hl with | [_], _ => rfl
  have D9 := df_mk (st := s_figure) (ps := ["sign"]) X G a9 l9 c9 k9 fun _ _ _ _ _ _ us hl => match us, hl with | [_], _ => rfl
  have D10 := df_mk (st := s_cell) (ps := ["_law_script", "_law_k"]) X G a10 l10 c10 k10 fun _ _ _ _ _ _ us hl => match us, hl with | [_, _], _ => rfl
  have D11 := df_mk (st := s_draws) (ps := Pdr) X G a11 l11 c11 k11 fun _ _ _ _ _ _ us hl => match us, hl with | [_, _], _ => rfl
  have D12 := df_mk (st := s_same) (ps := Ps) X G a12 l12 c12 k12 fun _ _ _ _ _ _ us hl => match us, hl with | [_, _], _ => rfl
  have D13 := df_mk (st := s_word) (ps := ["_law_asked"]) X G a13 l13 c13 k13 fun _ _ _ _ _ _ us hl => match us, hl with | [_], _ => rfl
  have D14 := df_mk (st := s_signs) (ps := ["_law_kind"]) X G a14 l14 c14 k14 fun _ _ _ _ _ _ us hl => match us, hl with | [_], _ => rfl
  have D15 := df_mk (st := s_text) (ps := Pte) X G a15 l15 c15 k15 fun _ _ _ _ _ _ us hl => match us, hl with | [_, _, _], _ => rfl
  have D16 := df_mk (st := s_of) (ps := Pof) X G a16 l16 c16 k16 fun _ _ _ _ _ _ us hl => match us, hl with | [_, _], _ => rfl
  have FW := fun_mk (st := s_winit) liW cdW keW
  have bW := FW.binds (ps := ["self", "word"]) fun _ _ _ _ _ _ us hl => match us, hl with | [_, _], _ => rfl
  have kW : XKl K XW := ⟨⟨⟨_, _, _, _, _, _, _, _, _, _, _, _, _, _, _, oW, vW⟩⟩, saW, gaW, gnW, nwW⟩
  have FC := fun_mk (st := s_cinit) liC cdC keC
  have bC := FC.binds (ps := ["self"]) fun _ _ _ _ _ _ us hl => match us, hl with | [_], _ => rfl
  have kC : XKl K XC := ⟨⟨⟨_, _, _, _, _, _, _, _, _, _, _, _, _, _, _, oC_, vC_⟩⟩, saC, gaC, gnC, nwC⟩
  have FS := fun_mk (st := s_sinit) liS cdS keS
  have bS := FS.binds (ps := ["self"]) fun _ _ _ _ _ _ us hl => match us, hl with | [_], _ => rfl
  have kS : XKl K XS := ⟨⟨⟨_, _, _, _, _, _, _, _, _, _, _, _, _, _, _, oS, vS⟩⟩, saS, gaS, gnS, nwS⟩
  have T : Xs K mg XW XC XS iW iC iS _ _ _ := ⟨PySem.W.mg_of X G mW, PySem.W.mg_of X G mC, PySem.W.mg_of X G mS, PySem.W.mg_none_of X G gv, ⟨_, PySem.W.mg_of X G gq⟩, ⟨_, PySem.W.mg_of X G gl⟩, ⟨_, PySem.W.mg_of X G gg⟩, kW, kC, kS, ⟨⟨_, _, _, _, _, _, _, _, _, _, _, _, _, _, _, oC_, uC⟩⟩, ⟨⟨_, _, _, _, _, _, _, _, _, _, _, _, _, _, _, oS, uS⟩⟩, ⟨wg, wr, wf, keW⟩, ⟨inC, ifC, kpC⟩, ⟨inS, ifS, kpS⟩, FW, FC, FS, bW, bC, bS⟩
  refine ⟨_, fun s v => BindsTo.of_eq (fd := PySem.W.fnOf "law" "law" (defArgs s_law) (defBody s_law) (defScope s_law) .none kVL dcL pmL anL (.ref cc) ctL) rfl, rfl, fun base KB _ BM => ?_⟩
  exact ok_law lL cL D11 D10 D12 D13 D15 D14 D16 D7 D8 D9 D4 D5 D1 D6 D3 D2 T B (PySem.W.codeHd_of_K KB hH) BM
theorem walk {l : PySem.W.OpenLaw} {q : Program} {loose : List Str} {XP : (Str → Option Value) → Heap → Prop} {YP : World → Heap → Prop} {d : DefRec} {K : Params → PySem.W.Frag} {cc Pt : Addr} (hn : l.most = some 63) (hdf : d.params.defaults = [])
    (hY : ∀ (w : World) (h : Heap), YP w h → (K w.params).In h) (hT : ∀ (w : World) (h : Heap), YP w h → h.get? Pt = some (PySem.W.tabObj #[])) (hC : ∀ w : World, PySem.W.codeHdIn (K w.params) cc Pt = true) (hK : ∀ w : World, (K w.params).lookup Pt = none)
    (F : ∀ (w : World) (mg : Str → Option Value) (fa : Addr) (h : Heap), (K w.params).In h → h.Ns mainGlobals mg → mg d.name = some (.ref fa) →
      ∃ fd : FuncData, (∀ (s : Shared) (u : Value), BindsTo s fd ⟨[u], []⟩ [("_law_script", u)]) ∧ fd.code = .ref cc ∧ ∀ base : Heap, (K w.params).In base → base.Ns mainGlobals mg → BMain mg base → FnOk l.prog w (K w.params) mg base (CXE l.prog w) 8 fa fd ["_law_script"] (spLaw (K w.params) Pt)) :
    PySem.W.WalkO q loose XP YP l.row.toRowW d [] (fun f vs => PySem.call f vs) :=
  L2.walk_ofT (n := 63) (k := 8) (x := "_law_script") (tabs := [(cc, Pt)]) (CX := fun w => CXE l.prog w) (sp := fun w => spLaw (K w.params) Pt) hn (by decide) hdf ⟨rfl, by decide, by decide⟩ hY
    (fun w h Y q hq => by obtain rfl := List.mem_singleton.mp hq; exact hT w h Y) (fun w h KX q hq => by obtain rfl := List.mem_singleton.mp hq; exact PySem.W.codeHd_of_K KX (hC w)) (fun w q hq => by obtain rfl := List.mem_singleton.mp hq; exact hK w)
    (fun w mg fa h h1 h2 h3 => let ⟨fd, e1, _, e2⟩ := F w mg fa h h1 h2 h3; ⟨fd, e1, e2⟩) (fun _ _ a ns hl hS hTs => ⟨a, ns, rfl, hS, hl, hTs (cc, Pt) (List.mem_singleton.mpr rfl), fun _ => rfl⟩) fun _ _ _ _ _ z => by
    obtain ⟨_, _, _, _, _, _, _, _, _, _, _, _, _, _, _, q⟩ := z
    exact q.elim
end K01
set_option Elab.async false
set_option linter.all false
open PySem PySem.W PyProof.Rows
def PySem.W.Fast.tw10438451733968329775 : Unit := ()
def PySem.W.Fast.tw7324780332071847724 : Unit := ()
def PySem.W.Fast.tw6296884442770278314 : Unit := ()
def PySem.W.Fast.tw9182042620843103190 : Unit := ()
def PySem.W.Fast.tw13760006111695082086 : Unit := ()
def PySem.W.Fast.tw11853229093640481007 : Unit := ()
def PySem.W.Fast.tw10632930348507536423 : Unit := ()
def PySem.W.Fast.tw11937370918638937421 : Unit := ()
def PySem.W.Fast.tw17170060452236690975 : Unit := ()
def PySem.W.Fast.tw7526121121538346464 : Unit := ()
def PySem.W.Fast.tw2400257229109768401 : Unit := ()
def PySem.W.Fast.tw16079652388223382421 : Unit := ()
def PySem.W.Fast.tw14336691259924395584 : Unit := ()
set_option maxRecDepth 100000 in
set_option maxHeartbeats 0 in
theorem PySem.Challenge.cw_wapentake_k01_answers_rows_and_names_holds : PySem.Challenge.rw_wapentake_k01_answers_rows_and_names.Holds := by
  w_on; o_law; k_head; (case hw => w_witness2)
  k_fill
  refine' K01.walk (l := PySem.Challenge.rw_wapentake_k01_answers_rows_and_names) (cc := _) (Pt := _) rfl rfl (fun w h Y => PySem.W.km_in_of Y) ?hT ?hC0 ?hK ?F
  case F =>
    intro w mg fa h KX G hmg
    refine' K01.all_mk KX G hmg ?aL ?lL ?cL ?lC ?hC ?hH ?a1 ?l1 ?c1 ?k1 ?a2 ?l2 ?c2 ?k2 ?a3 ?l3 ?c3 ?k3 ?a4 ?l4 ?c4 ?k4 ?a5 ?l5 ?c5 ?k5 ?a6 ?l6 ?c6 ?k6 ?a7 ?l7 ?c7 ?k7 ?a8 ?l8 ?c8 ?k8 ?a9 ?l9 ?c9 ?k9 ?a10 ?l10 ?c10 ?k10 ?a11 ?l11 ?c11 ?k11 ?a12 ?l12 ?c12 ?k12 ?a13 ?l13 ?c13 ?k13 ?a14 ?l14 ?c14 ?k14 ?a15 ?l15 ?c15 ?k15 ?a16 ?l16 ?c16 ?k16 ?mW ?oW ?vW ?saW ?gaW ?gnW ?nwW ?inW ?ifW ?kpW ?liW ?cdW ?keW ?mC ?oC_ ?vC_ ?saC ?gaC ?gnC ?nwC ?inC ?ifC ?kpC ?liC ?cdC ?keC ?mS ?oS ?vS ?saS ?gaS ?gnS ?nwS ?inS ?ifS ?kpS ?liS ?cdS ?keS ?uC ?uS ?wg ?wr ?wf ?gg ?gq ?gl ?gv ?z0 ?z1 ?z2 ?z3 ?z4 ?z5 ?z6 ?z7 ?z8 ?z9 ?z10
    (case aL => k_is); (case lL => k_is); (case cL => k_is); (case lC => k_is)
    (case hC => rfl); (case hH => kernel_rfl); (case a1 => k_is); (case l1 => k_is)
    (case c1 => k_is); (case k1 => k_is); (case a2 => k_is); (case l2 => k_is)
    (case c2 => k_is); (case k2 => k_is); (case a3 => k_is); (case l3 => k_is)
    (case c3 => k_is); (case k3 => k_is); (case a4 => k_is); (case l4 => k_is)
    (case c4 => k_is); (case k4 => k_is); (case a5 => k_is); (case l5 => k_is)
    (case c5 => k_is); (case k5 => k_is); (case a6 => k_is); (case l6 => k_is)
    (case c6 => k_is); (case k6 => k_is); (case a7 => k_is); (case l7 => k_is)
    (case c7 => k_is); (case k7 => k_is); (case a8 => k_is); (case l8 => k_is)
    (case c8 => k_is); (case k8 => k_is); (case a9 => k_is); (case l9 => k_is)
    (case c9 => k_is); (case k9 => k_is); (case a10 => k_is); (case l10 => k_is)
    (case c10 => k_is); (case k10 => k_is); (case a11 => k_is); (case l11 => k_is)
    (case c11 => k_is); (case k11 => k_is); (case a12 => k_is); (case l12 => k_is)
    (case c12 => k_is); (case k12 => k_is); (case a13 => k_is); (case l13 => k_is)
    (case c13 => k_is); (case k13 => k_is); (case a14 => k_is); (case l14 => k_is)
    (case c14 => k_is); (case k14 => k_is); (case a15 => k_is); (case l15 => k_is)
    (case c15 => k_is); (case k15 => k_is); (case a16 => k_is); (case l16 => k_is)
    (case c16 => k_is); (case k16 => k_is); (case mW => k_is); (case oW => k_is)
    (case vW => exact ⟨by decide +kernel, by decide +kernel, by decide +kernel, by decide +kernel, by decide +kernel, fun _ => rfl⟩); (case saW => k_is); (case gaW => k_is); (case gnW => k_is)
    (case nwW => k_is); (case inW => k_is); (case ifW => k_is); (case kpW => k_is)
    (case liW => k_is); (case cdW => k_is); (case keW => k_is); (case mC => k_is)
    (case oC_ => k_is); (case vC_ => exact ⟨by decide +kernel, by decide +kernel, by decide +kernel, by decide +kernel, by decide +kernel, fun _ => rfl⟩); (case saC => k_is); (case gaC => k_is)
    (case gnC => k_is); (case nwC => k_is); (case inC => k_is); (case ifC => k_is)
    (case kpC => k_is); (case liC => k_is); (case cdC => k_is); (case keC => k_is)
    (case mS => k_is); (case oS => k_is); (case vS => exact ⟨by decide +kernel, by decide +kernel, by decide +kernel, by decide +kernel, by decide +kernel, fun _ => rfl⟩); (case saS => k_is)
    (case gaS => k_is); (case gnS => k_is); (case nwS => k_is); (case inS => k_is)
    (case ifS => k_is); (case kpS => k_is); (case liS => k_is); (case cdS => k_is)
    (case keS => k_is); (case uC => decide +kernel); (case uS => decide +kernel); (case wg => k_is)
    (case wr => k_is); (case wf => k_is); (case gg => k_is); (case gq => k_is)
    (case gl => k_is); (case gv => k_is); (case z0 => k_is); (case z1 => k_is)
    (case z2 => k_is); (case z3 => k_is); (case z4 => k_is); (case z5 => k_is)
    (case z6 => k_is); (case z7 => k_is); (case z8 => k_is); (case z9 => k_is)
    (case z10 => k_is)
  case hT => exact fun w h Y => PySem.W.km_tabs_of Y _ (by decide)
  case hC0 => intro w; kernel_rfl
  case hK => intro w; kernel_rfl
#print axioms PySem.Challenge.cw_wapentake_k01_answers_rows_and_names_holds
