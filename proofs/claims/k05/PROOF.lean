import PyProof.Rows.All
import Wide.All
import OpenK.AllK
import Wide.FinOn
import PyProof.EqAt
import PyProof.EqKinds
import PyProof.TupleCall
import KE.BitLaws
import PyProof.NeKinds
import PyProof.ExcClass2
import PyProof.ExcBaseAll.ValueError
import PyProof.ExcAttrAll.ValueError
import PyProof.InstStoreFacts
import PyProof.RulesAs
import PyProof.NsDelKeeps
import KE.KRevSl
import PyProof.Draws
import PyProof.ReprRoads
import PyProof.StrLawsRepr
import PyProof.ReprLen
import PyProof.Rows.FStr
import PyProof.CallStr
import PyProof.TupleOfSeq
import KE.KSortKeySt
import KE.KEqDict
import PySem.Challenge.RW_failslack_k05_two_faults_at_once
set_option Elab.async false
set_option linter.all false
set_option maxRecDepth 100000
/-! THE HAND LAYER, for ints, bools, texts, own classes, lists, tuples, dicts, comprehensions, walks over dicts, enumerate, zip, reversed, texts, calls, loops. Paste it whole ahead of your own text; what your proof does not reach may be deleted. -/
namespace L2
open PySem PySem.Spec PyProof.Rows

/-- a key: an int or a str -/
abbrev Key := Sum Int Str
def keyIs : Key → Value → Bool
  | .inl k, v => Value.isInt k v
  | .inr x, v => Value.isStrOf x v
def keyH (w : World) : Key → Int
  | .inl k => hashInt k
  | .inr x => hashStr w x
theorem keyIs_shape : ∀ {k : Key} {v : Value}, keyIs k v = true → (∃ i t, k = Sum.inl i ∧ v = Value.int i t) ∨ (∃ x t, k = Sum.inr x ∧ v = Value.str x t)
  | .inl i, v, h => by
    obtain ⟨t, e⟩ := Value.isInt_shape (k := i) (v := v) h
    exact .inl ⟨i, t, rfl, e⟩
  | .inr x, v, h => by
    obtain ⟨t, e⟩ := Value.isStrOf_shape (x := x) (v := v) h
    exact .inr ⟨x, t, rfl, e⟩
theorem keyIs_int (i : Int) (t : Tok) : keyIs (.inl i) (.int i t) = true := by simp [keyIs, Value.isInt]
theorem keyIs_str (x : Str) (t : Tok) : keyIs (.inr x) (.str x t) = true := by simp [keyIs, Value.isStrOf]
theorem key_ll (a b : Int) : decide ((Sum.inl a : Key) = Sum.inl b) = (a == b) := by
  by_cases e : a = b
  · subst e; simp
  · have h : ¬ (Sum.inl a : Key) = Sum.inl b := fun q => e (Sum.inl.inj q)
    rw [decide_eq_false h]
    exact (beq_eq_false_iff_ne.mpr e).symm
theorem key_rr (a b : Str) : decide ((Sum.inr a : Key) = Sum.inr b) = decide (a = b) := by
  by_cases e : a = b
  · subst e; simp
  · have h : ¬ (Sum.inr a : Key) = Sum.inr b := fun q => e (Sum.inr.inj q)
    rw [decide_eq_false h, decide_eq_false e]
theorem key_lr (a : Int) (b : Str) : decide ((Sum.inl a : Key) = Sum.inr b) = false := decide_eq_false (fun q => nomatch q)
theorem key_rl (a : Str) (b : Int) : decide ((Sum.inr a : Key) = Sum.inl b) = false := decide_eq_false (fun q => nomatch q)

def mixKind (prog : Program) (w : World) : PySem.KeyKind prog w Key where
  is := keyIs
  hash := keyH w
  inj := fun v a b ha hb => by
    rcases keyIs_shape ha with ⟨i, t, rfl, rfl⟩ | ⟨x, t, rfl, rfl⟩
    · rcases keyIs_shape hb with ⟨j, u, rfl, e⟩ | ⟨y, u, rfl, e⟩
      · injection e with e1 _; rw [e1]
      · exact nomatch e
    · rcases keyIs_shape hb with ⟨j, u, rfl, e⟩ | ⟨y, u, rfl, e⟩
      · exact nomatch e
      · injection e with e1 _; rw [e1]
  byValue := fun k v h => by
    rcases keyIs_shape h with ⟨i, t, rfl, rfl⟩ | ⟨x, t, rfl, rfl⟩ <;> rfl
  pyHash := fun hv h => by
    rcases keyIs_shape hv with ⟨i, t, rfl, rfl⟩ | ⟨x, t, rfl, rfl⟩
    · exact wpAny_pyHash_int h
    · exact wpAny_pyHash_str h
  eqBool := fun hu hv h => by
    rcases keyIs_shape hu with ⟨i, t, rfl, rfl⟩ | ⟨x, t, rfl, rfl⟩
    · rcases keyIs_shape hv with ⟨j, u, rfl, rfl⟩ | ⟨y, u, rfl, rfl⟩
      · rw [key_ll] at h; exact wpAny_eqBool_int h
      · rw [key_lr] at h; exact SeqAt.EqAt.int_str i t y u _ _ _ _ h
    · rcases keyIs_shape hv with ⟨j, u, rfl, rfl⟩ | ⟨y, u, rfl, rfl⟩
      · rw [key_rl] at h; exact SeqAt.EqAt.str_int x t j u _ _ _ _ h
      · rw [key_rr] at h; exact wpAny_eqBool_str h
  «strs» := fun k x t v h => by
    rcases keyIs_shape h with ⟨i, u, rfl, e⟩ | ⟨y, u, rfl, e⟩
    · exact nomatch e
    · injection e with e1 _
      subst e1
      cases v <;> rfl

theorem mixKind_int (prog : Program) (w : World) (i : Int) (t : Tok) : (mixKind prog w).is (.inl i) (.int i t) = true := keyIs_int i t
theorem mixKind_str (prog : Program) (w : World) (x : Str) (t : Tok) : (mixKind prog w).is (.inr x) (.str x t) = true := keyIs_str x t
end L2

namespace L2
open PySem PySem.Spec PyProof.Rows

/-- a value, without the heap -/
inductive V where
  | non | bl (b : Bool) | int (i : Int) | str (x : Str) | byt (b : Array UInt8) | flt (b : UInt64) | ref (a : Addr) | ty (n : String)
  deriving DecidableEq

def RelV : V → Value → Prop
  | .non, u => u = Value.none
  | .bl b, u => u = Value.bool b
  | .int i, u => ∃ t, u = Value.int i t
  | .str x, u => ∃ t, u = Value.str x t
  | .byt b, u => ∃ t, u = Value.bytes b t
  | .flt b, u => ∃ t, u = Value.float b t
  | .ref a, u => u = Value.ref a
  | .ty n, u => u = Value.type n

abbrev Vals : List V → List Value → Prop := Paired RelV
theorem Vals.length {xs : List V} {us : List Value} (r : Vals xs us) : xs.length = us.length := Paired.length r
theorem Vals.get : ∀ {xs : List V} {us : List Value} {i : Nat} {x : V}, Vals xs us → xs[i]? = some x → ∃ u, us[i]? = some u ∧ RelV x u
  | _, _, _, _, .nil, e => by simp at e
  | _, _, 0, _, .cons r _, e => by simp at e; subst e; exact ⟨_, rfl, r⟩
  | _, _, i + 1, x, .cons _ t, e => by
    obtain ⟨u, h1, h2⟩ := Vals.get (i := i) (x := x) t (by simpa using e)
    exact ⟨u, by simpa using h1, h2⟩
theorem Vals.set {x : V} {u : Value} (r : RelV x u) : ∀ {xs : List V} {us : List Value} (i : Nat), Vals xs us → Vals (xs.set i x) (us.set i u)
  | _, _, _, .nil => .nil
  | _, _, 0, .cons _ t => .cons r t
  | _, _, i + 1, .cons q t => .cons q (Vals.set r i t)
theorem Vals.append : ∀ {xs ys : List V} {us ws : List Value}, Vals xs us → Vals ys ws → Vals (xs ++ ys) (us ++ ws)
  | _, _, _, _, .nil, s => s
  | _, _, _, _, .cons r t, s => .cons r (Vals.append t s)
theorem Vals.take : ∀ {xs : List V} {us : List Value} (n : Nat), Vals xs us → Vals (xs.take n) (us.take n)
  | _, _, 0, _ => .nil
  | _, _, _ + 1, .nil => .nil
  | _, _, n + 1, .cons r t => .cons r (Vals.take n t)
theorem Vals.drop : ∀ {xs : List V} {us : List Value} (n : Nat), Vals xs us → Vals (xs.drop n) (us.drop n)
  | _, _, 0, r => r
  | _, _, _ + 1, .nil => .nil
  | _, _, n + 1, .cons _ t => Vals.drop n t
def RelO : Option V → Option Value → Prop
  | some v, some u => RelV v u
  | none, none => True
  | _, _ => False
def KV {κ : Type} : List (κ × V) → List (κ × Value) → Prop := Paired fun (p : κ × V) (q : κ × Value) => p.1 = q.1 ∧ RelV p.2 q.2

/-- a key of a dict (00_mix): an int or a text -/
def kV : Key → V
  | .inl i => .int i
  | .inr x => .str x

/-- what stands at a tracked address -/
inductive HO where
  /-- a list -/
  | lst (xs : List V)
  /-- a tuple (never changes) -/
  | tup (xs : List V)
  /-- a dict whose keys are ints and texts; one whose keys are tuples of ints and texts (the empty one is both) -/
  | dK (kvs : List (Key × V)) | dT (kvs : List (List Key × V))
  /-- a set of ints: its members, its size -/
  | set (S : Int → Bool) (n : Nat)
  /-- an instance of the class at C, its dict at dx, its attributes -/
  | ins (C dx : Addr) (fs : List (Str × V))
  /-- the dict of the instance at x -/
  | own (x : Addr)
  /-- the dict of an exception -/
  | xd (fs : List (Str × V))
  /-- a bound method, f of x -/
  | met (f x : Addr)
  /-- a range object lo, lo + 1, .. below hi -/
  | rng (lo hi : Int)
  /-- a thing that is known to the object (the script; a dict while a loop walks it): read, never written while it is so -/
  | frz (o : Obj) (u : HO)
  /-- a code object's table -/
  | tbl (ps : Array Value)
  /-- a code object by its name -/
  | cod (q : Str)
  /-- any other thing, by what is true of its one object (a def of one's own: SetO a S n := HO.ext fun h => ..) -/
  | ext (φ : Heap → Prop)

abbrev Hp := Addr → Option HO
/-- a table all of whose codes are called q -/
def tq (q : Str) : Array Value := #[.str q 0]
/-- what never changes -/
def Fix : HO → Prop
  | .tup _ => True
  | .cod _ => True
  | _ => False
def upd (H : Hp) (a : Addr) (o : HO) : Hp := fun b => if b = a then some o else H b
theorem upd_same {H : Hp} {a : Addr} {o : HO} : upd H a o a = some o := by unfold upd; rw [if_pos rfl]
theorem upd_ne {H : Hp} {a b : Addr} {o : HO} (h : b ≠ a) : upd H a o b = H b := by unfold upd; rw [if_neg h]
theorem upd_upd {H : Hp} {a : Addr} {o u : HO} : upd (upd H a o) a u = upd H a u := by
  funext b; unfold upd; split <;> rfl
/-- two objects of different content stand apart -/
theorem ne_of {H : Hp} {a b : Addr} {o u : HO} (h : H a = some o) (h' : H b = some u) (d : o ≠ u) : a ≠ b := by
  intro e; subst e; rw [h] at h'; exact d (Option.some.inj h')
theorem ne_of_none {H : Hp} {a b : Addr} {o : HO} (h : H a = some o) (h' : H b = none) : a ≠ b := by
  intro e; subst e; rw [h] at h'; cases h'

section
variable (P : Program) (w : World)
def ObjOk (H : Hp) (h : Heap) (a : Addr) : HO → Prop
  | .lst xs => xs.length ≤ sizeLine ∧ ∃ (its : List Value) (n : Nat), Vals xs its ∧ h.get? a = some { cls := .type "list", data := .seq its.toArray n }
  | .tup xs => xs.length ≤ sizeLine ∧ ∃ its : List Value, Vals xs its ∧ IsTup h a its.toArray
  | .dK kvs => kvs.length ≤ sizeLine ∧ (a == sysModules) = false ∧ ∃ vs, KV kvs vs ∧ h.DictOf (mixKind P w) a vs
  | .dT kvs => kvs.length ≤ sizeLine ∧ (a == sysModules) = false ∧ ∃ xs : List (List Key × Addr × Value),
      Paired (fun (p : List Key × V) (q : List Key × Addr × Value) => p.1 = q.1 ∧ H q.2.1 = some (.tup (p.1.map kV)) ∧ RelV p.2 q.2.2) kvs xs ∧
      ∃ o es ep, h.get? a = some o ∧ o.ExactDict ∧ o.data = .dict es ep ∧ es.toList = xs.map (entryOfKey (tupleKind (mixKind P w))) ∧ (xs.map (·.1)).Nodup
  | .set S n => h.SetOf (intKind P w) a S n
  | .ins C dx fs => H dx = some (.own a) ∧ fs.length ≤ 1000 ∧ dx ≠ a ∧ h.get? a = some (PySem.W.instObj C dx) ∧
      ∃ mA, h.Ns1 dx mA ∧ (∀ f, RelO (fs.lookup f) (mA f)) ∧ PySem.Within mA (fs.map (·.1))
  | .own _ => ∃ o, h.get? a = some o
  | .xd fs => ∃ mA, h.Ns1 a mA ∧ ∀ f, RelO (fs.lookup f) (mA f)
  | .rng lo hi => ∃ t u v, h.get? a = some { cls := .type "range", data := .fields #[.int lo t, .int hi u, .int 1 v] }
  | .frz o u => h.get? a = some o ∧ ObjOk H h a u
  | .tbl ps => ∃ ps' : Array Value, h.get? a = some { cls := .none, data := .fields ps' } ∧ TriplesOk ps'.toList ∧ ∀ q, ps = tq q → ∀ pos cv, codeAmong pos ps'.toList = some cv → ∃ c', cv = Value.ref c' ∧ H c' = some (.cod q)
  | .cod q => h.CodeRec (.ref a) q
  | .met f x => h.get? a = some (PySem.W.methodObj (.ref f) (.ref x))
  | .ext φ => φ h ∧ (∃ o, h.get? a = some o) ∧ ∀ h1 h2 : Heap, φ h1 → (∀ o, h1.get? a = some o → h2.get? a = some o) → φ h2
/-- the abstract heap is held -/
def HOk (H : Hp) (h : Heap) : Prop := ∀ a o, H a = some o → ObjOk P w H h a o
end

section
variable {P : Program} {w : World} {H H' : Hp} {h h' : Heap} {a : Addr} {o : HO}
theorem ObjOk.lt (x : ObjOk P w H h a o) : a < h.objs.size := by
  cases o with
  | lst xs => obtain ⟨_, _, _, _, e⟩ := x; exact Heap.lt_size e
  | tup xs => obtain ⟨_, _, _, p⟩ := x; exact p.lt
  | dK kvs => obtain ⟨_, _, _, _, o, _, _, e, _⟩ := x; exact Heap.lt_size e
  | dT kvs => obtain ⟨_, _, _, _, o, _, _, e, _⟩ := x; exact Heap.lt_size e
  | set S n => obtain ⟨o, _, _, _, e, _⟩ := x; exact Heap.lt_size e
  | ins C dx fs => obtain ⟨_, _, _, e, _⟩ := x; exact Heap.lt_size e
  | own y => obtain ⟨_, e⟩ := x; exact Heap.lt_size e
  | xd fs => obtain ⟨_, ⟨_, _, _, e, _⟩, _⟩ := x; exact Heap.lt_size e
  | rng lo hi => obtain ⟨_, _, _, e⟩ := x; exact Heap.lt_size e
  | frz ob u => obtain ⟨e, _⟩ := x; exact Heap.lt_size e
  | tbl ps => obtain ⟨_, e, _⟩ := x; exact Heap.lt_size e
  | cod q => obtain ⟨c, ob, vs, t, e0, e, _⟩ := x; cases e0; exact Heap.lt_size e
  | met f y => exact Heap.lt_size (show h.get? a = some _ from x)
  | ext φ => obtain ⟨_, ⟨_, e⟩, _⟩ := x; exact Heap.lt_size e
theorem Paired.mapP {α β : Type} {F G : α → β → Prop} : ∀ {l₁ : List α} {l₂ : List β}, Paired F l₁ l₂ → (∀ a b, F a b → G a b) → Paired G l₁ l₂
  | _, _, .nil, _ => .nil
  | _, _, .cons r t, f => .cons (f _ _ r) (Paired.mapP t f)
/-- what an object's description leans on: its own object, its own dict, the tuples -/
theorem ObjOk.stay (x : ObjOk P w H h a o) (k : ∀ b u, (b = a ∨ H b = some (.own a)) → h.get? b = some u → h'.get? b = some u)
    (ho : ∀ b, H b = some (.own a) → H' b = some (.own a)) (ht : ∀ b u, Fix u → H b = some u → H' b = some u) : ObjOk P w H' h' a o := by
  induction o with
  | lst xs => obtain ⟨z, its, n, r, e⟩ := x; exact ⟨z, its, n, r, k _ _ (.inl rfl) e⟩
  | tup xs => obtain ⟨z, its, r, ob, e, c⟩ := x; exact ⟨z, its, r, ob, k _ _ (.inl rfl) e, c⟩
  | dK kvs => obtain ⟨z, y, vs, r, ob, es, ep, e, c⟩ := x; exact ⟨z, y, vs, r, ob, es, ep, k _ _ (.inl rfl) e, c⟩
  | dT kvs =>
    obtain ⟨z, y, xs, r, ob, es, ep, e, c⟩ := x
    exact ⟨z, y, xs, Paired.mapP r fun p q z => ⟨z.1, ht _ _ trivial z.2.1, z.2.2⟩, ob, es, ep, k _ _ (.inl rfl) e, c⟩
  | set S n => obtain ⟨ob, es, ep, t, e, c⟩ := x; exact ⟨ob, es, ep, t, k _ _ (.inl rfl) e, c⟩
  | ins C dx fs =>
    obtain ⟨d, z, ne, e, mA, ⟨od, es, ep, e2, c⟩, r⟩ := x
    exact ⟨ho _ d, z, ne, k _ _ (.inl rfl) e, mA, ⟨od, es, ep, k _ _ (.inr d) e2, c⟩, r⟩
  | own y => obtain ⟨ob, e⟩ := x; exact ⟨ob, k _ _ (.inl rfl) e⟩
  | xd fs => obtain ⟨mA, ⟨od, es, ep, e, c⟩, r⟩ := x; exact ⟨mA, ⟨od, es, ep, k _ _ (.inl rfl) e, c⟩, r⟩
  | rng lo hi => obtain ⟨t, u, v, e⟩ := x; exact ⟨t, u, v, k _ _ (.inl rfl) e⟩
  | frz ob u ih => obtain ⟨e, q⟩ := x; exact ⟨k _ _ (.inl rfl) e, ih q⟩
  | tbl ps =>
    obtain ⟨ps', e, tr, k2⟩ := x
    exact ⟨ps', k _ _ (.inl rfl) e, tr, fun q z pos cv m => let ⟨c', e1, e2⟩ := k2 q z pos cv m; ⟨c', e1, ht _ _ trivial e2⟩⟩
  | cod q =>
    obtain ⟨c, ob, vs, t, e0, e, r⟩ := x
    cases e0
    exact ⟨a, ob, vs, t, rfl, k _ _ (.inl rfl) e, r⟩
  | met f y =>
    have e : h.get? a = some (PySem.W.methodObj (.ref f) (.ref y)) := x
    show h'.get? a = some (PySem.W.methodObj (.ref f) (.ref y))
    exact k a _ (.inl rfl) e
  | ext φ => obtain ⟨p, ⟨o, e⟩, st⟩ := x; exact ⟨st _ _ p fun o q => k _ _ (.inl rfl) q, ⟨o, k _ _ (.inl rfl) e⟩, st⟩
theorem HOk.lt (x : HOk P w H h) (e : H a = some o) : a < h.objs.size := (x a o e).lt
theorem HOk.fresh (x : HOk P w H h) (e : h.objs.size ≤ a) : H a = none := by
  cases q : H a with
  | none => rfl
  | some u => exact absurd (Nat.lt_of_lt_of_le (x.lt q) e) (Nat.lt_irrefl _)
/-- every object of the heap is kept -/
theorem HOk.kept (x : HOk P w H h) (k : ∀ b u, h.get? b = some u → h'.get? b = some u) : HOk P w H h' := fun a o e =>
  (x a o e).stay (fun b u _ q => k b u q) (fun _ q => q) fun _ _ _ q => q
/-- a new object is laid and tracked -/
theorem HOk.laid (x : HOk P w H h) (k : ∀ b u, h.get? b = some u → h'.get? b = some u) (hp : h.objs.size ≤ a) (new : ObjOk P w (upd H a o) h' a o) : HOk P w (upd H a o) h' := fun b u e => by
  have hn := x.fresh hp
  by_cases hb : b = a
  · subst hb; rw [upd_same] at e; cases e; exact new
  · rw [upd_ne hb] at e
    exact (x b u e).stay (fun c v _ q => k c v q) (fun c q => by rw [upd_ne (ne_of_none q hn)]; exact q) fun c xs _ q => by rw [upd_ne (ne_of_none q hn)]; exact q
end

/-- what may be read as u: it is u, or a known u -/
def Rd (H : Hp) (a : Addr) (u : HO) : Prop := H a = some u ∨ ∃ o, H a = some (.frz o u)
theorem Rd.ok {P : Program} {w : World} {H : Hp} {h : Heap} {a : Addr} {u : HO} (r : Rd H a u) (x : HOk P w H h) : ObjOk P w H h a u := by
  rcases r with r | ⟨o, r⟩
  · exact x a u r
  · obtain ⟨_, q⟩ := x a _ r
    exact q
/-- what may be written -/
def Mut : Option HO → Prop
  | some (.lst _) => True
  | some (.dK _) => True
  | some (.dT _) => True
  | some (.set _ _) => True
  | some (.ins _ _ _) => True
  | some (.ext _) => True
  | _ => False
section
variable {P : Program} {w : World} {H : Hp} {h h' : Heap} {x e : Addr} {o' : HO}
/-- the object at e is changed: x itself, or the dict of the instance x -/
theorem HOk.write (ok : HOk P w H h) (mu : Mut (H x)) (he : e = x ∨ H e = some (.own x)) (k : ∀ b u, b ≠ e → h.get? b = some u → h'.get? b = some u) (heo : ∃ u, h'.get? e = some u)
    (new : ObjOk P w (upd H x o') h' x o') : HOk P w (upd H x o') h' := fun b u q => by
  have nown : ∀ c y, H c = some (.own y) → c ≠ x := fun c y r z => by subst z; rw [r] at mu; exact mu
  have ntup : ∀ c u, Fix u → H c = some u → c ≠ x := fun c u fx r z => by
    subst z; rw [r] at mu
    cases u <;> first | exact fx | exact mu
  by_cases hb : b = x
  · subst hb; rw [upd_same] at q; cases q; exact new
  · rw [upd_ne hb] at q
    by_cases hbe : b = e
    · have q' : H b = some (.own x) := by
        rcases he with z | z
        · exact absurd (hbe.trans z) hb
        · rw [hbe]; exact z
      rw [q] at q'; cases q'
      obtain ⟨v, hv⟩ := heo
      exact ⟨v, by rw [hbe]; exact hv⟩
    · refine (ok b u q).stay (fun c v hc r => k c v ?_ r) (fun c r => by rw [upd_ne (nown c b r)]; exact r) fun c xs fx r => by rw [upd_ne (ntup c xs fx r)]; exact r
      rcases hc with rfl | hc
      · exact hbe
      · rintro rfl
        rcases he with z | z
        · exact nown c b hc z
        · rw [hc] at z; cases z; exact hb rfl
end

/-! ### kept unless tracked; of the frames at fs (the callers') the slots may change (an exception that passes writes there); of the records at ex (iterators) nothing is said -/
structure Un (fs ex : List Addr) (H H' : Hp) (h h' : Heap) : Prop where
  keep : ∀ b o, h.get? b = some o → H b = none → b ∉ fs → b ∉ ex → h'.get? b = some o
  slot : ∀ b o, h.get? b = some o → H b = none → b ∈ fs → b ∉ ex → ∃ sl, h'.get? b = some { o with slots := sl }
  free : ∀ b o, h.get? b = some o → H b = none → b ∉ ex → H' b = none
  there : ∀ b o, h.get? b = some o → b ∉ ex → ∃ o', h'.get? b = some o'
  tups : ∀ b xs, H b = some (.tup xs) → H' b = some (.tup xs)
  frzs : ∀ b o u, H b = some (.frz o u) → H' b = some (.frz o u)
  tbls : ∀ b ps, H b = some (.tbl ps) → ∃ more, H' b = some (.tbl (ps ++ more))
section
variable {fs fs' ex ex' : List Addr} {H H1 H2 : Hp} {h h1 h2 h' : Heap} {a x e : Addr} {o : HO}
theorem Un.any (u : Un fs ex H H1 h h1) {b : Addr} {ob : Obj} (q : h.get? b = some ob) (n : H b = none) (hx : b ∉ ex) : ∃ sl, h1.get? b = some { ob with slots := sl } := by
  by_cases hb : b ∈ fs
  · exact u.slot b ob q n hb hx
  · exact ⟨ob.slots, u.keep b ob q n hb hx⟩
theorem Un.kept (k : ∀ b u, h.get? b = some u → h'.get? b = some u) : Un fs ex H H h h' :=
  ⟨fun b ob q _ _ _ => k b ob q, fun b ob q _ _ _ => ⟨ob.slots, k b ob q⟩, fun _ _ _ n _ => n, fun b ob q _ => ⟨ob, k b ob q⟩, fun _ _ q => q, fun _ _ _ q => q, fun _ ps q => ⟨#[], by rw [q]; simp⟩⟩
theorem Un.refl : Un fs ex H H h h := Un.kept fun _ _ q => q
theorem Un.laid (k : ∀ b u, h.get? b = some u → h'.get? b = some u) (hp : h.objs.size ≤ a) (hn : H a = none) : Un fs ex H (upd H a o) h h' where
  keep := fun b u q _ _ _ => k b u q
  slot := fun b u q _ _ _ => ⟨u.slots, k b u q⟩
  free := fun b u q n _ => by rw [upd_ne (Nat.ne_of_lt (Nat.lt_of_lt_of_le (Heap.lt_size q) hp))]; exact n
  there := fun b u q _ => ⟨u, k b u q⟩
  tups := fun b xs q => by rw [upd_ne (ne_of_none q hn)]; exact q
  frzs := fun b u xs q => by rw [upd_ne (ne_of_none q hn)]; exact q
  tbls := fun b ps q => ⟨#[], by rw [upd_ne (ne_of_none q hn), q]; simp⟩
theorem Un.write (mu : Mut (H x)) (he : e = x ∨ H e = some (.own x)) (k : ∀ b u, b ≠ e → h.get? b = some u → h'.get? b = some u) (heo : ∃ u, h'.get? e = some u) : Un fs ex H (upd H x o) h h' := by
  have hx : ∀ b, H b = none → b ≠ x := fun b n z => by subst z; rw [n] at mu; exact mu
  have hb : ∀ b, H b = none → b ≠ e := fun b n z => by
    subst z
    rcases he with r | r
    · exact hx b n r
    · rw [n] at r; cases r
  have hm : ∀ b u, H b = some u → ¬ Mut (some u) → b ≠ x := fun b u q nm z => by subst z; rw [q] at mu; exact nm mu
  refine ⟨fun b u q n _ _ => k b u (hb b n) q, fun b u q n _ _ => ⟨u.slots, k b u (hb b n) q⟩, fun b u q n _ => by rw [upd_ne (hx b n)]; exact n, fun b u q _ => ?_,
    fun b xs q => by rw [upd_ne (hm b _ q fun z => z)]; exact q, fun b u xs q => by rw [upd_ne (hm b _ q fun z => z)]; exact q, fun b ps q => ⟨#[], by rw [upd_ne (hm b _ q fun z => z), q]; simp⟩⟩
  by_cases hbe : b = e
  · subst hbe; exact heo
  · exact ⟨u, k b u hbe q⟩
end

/-! ### the heap without what is tracked -/
def trk (h : Heap) (H : Hp) : List Addr := (List.range h.objs.size).filter fun a => (H a).isSome
def hidT (h : Heap) (H : Hp) : Heap := PySem.W.hideAll h (trk h H)
theorem hidT_size (h : Heap) (H : Hp) : (hidT h H).objs.size = h.objs.size := PySem.W.hideAll_size _ _
theorem hidT_get {h : Heap} {H : Hp} {b : Addr} {o : Obj} (e : h.get? b = some o) (n : H b = none) : (hidT h H).get? b = some o :=
  PySem.W.hideAll_get _ e fun hm => by
    have q : (H b).isSome = true := (List.mem_filter.mp hm).2
    rw [n] at q; simp at q
theorem of_hidT {h : Heap} {H : Hp} {b : Addr} {o : Obj} (e : (hidT h H).get? b = some o) : h.get? b = some o ∧ H b = none := by
  have e' : h.get? b = some o := PySem.W.of_hideAll (trk h H) e
  refine ⟨e', ?_⟩
  cases q : H b with
  | none => rfl
  | some x =>
    have hm : b ∈ trk h H := List.mem_filter.mpr ⟨List.mem_range.mpr (Heap.lt_size e'), by simp [q]⟩
    have z : (hidT h H).get? b = none := PySem.W.hideAll_none (trk h H) hm
    rw [z] at e; cases e

/-! ### OpenK's ledger, filled with every new object but one -/
def allNews (g h : Heap) (L : Addr) : List (Addr × Obj) := (List.range h.objs.size).filterMap fun a => if a = L ∨ (g.get? a).isSome = true then none else (h.get? a).map fun o => (a, o)
def rest (g h : Heap) (L d : Addr) : List (Addr × Obj) := (allNews g h L).filter fun p => decide (p.1 ≠ d)
end L2

namespace L2
open PySem PySem.Spec PyProof.Rows

/-- the module's facts, over the base: the heap at the law's entry without what is tracked there -/
structure Mod (K : PySem.W.Frag) (mg : Str → Option Value) (base : Heap) : Prop where
  kin : K.In base
  glob : base.Ns mainGlobals mg
  blt : ∃ mb, base.Ns builtinsNs mb ∧ ∀ x : Str, x ≠ "__name__" → mb x = bootBuiltins x
  nolimit : base.NoLimit
  bmn : ∃ bm ob, mg "__builtins__" = some (.ref bm) ∧ bm ≠ builtinsNs ∧ base.get? bm = some ob ∧ ob.cls = .type "module" ∧ ob.dict = some builtinsNs ∧ ob.data = .plain

/-- the context: a def's body (or a comprehension's block) running. base: fixed through the whole law; s₀, H₀: the entry; outer: the frames whose slots others may change (a def's callers); stack: all frames that run;
   ex: iterators that were made ahead of the entry and are walked here (a comprehension's); fn: the names whose cells were made at the entry (a def: all; a comprehension's block: its own); calm: not within an except suite; pn: pins that every state bears; xe: what is wanted of an exception that leaves the code -/
structure Cx where
  prog : Program
  w : World
  K : PySem.W.Frag
  mg : Str → Option Value
  base : Heap
  A : Around
  N : List Str
  s_0 : Shared
  H_0 : Hp
  env : Env
  outer : List Env
  stack : List Env
  ex : List Addr
  fn : Str → Bool
  calm : Bool
  pn : List (Addr × Obj)
  xe : Value → Shared → Prop
/-- the callers' frames -/
def frs (l : List Env) : List Addr := l.filterMap (·.frame)
abbrev Cx.fs (X : Cx) : List Addr := frs X.outer

def Vis (sc : Scope) (x : Str) : Prop := sc.names.lookup x = some .local ∨ sc.names.lookup x = some .cell ∨ sc.names.lookup x = some .free
def Loc (sc : Scope) (x : Str) : Prop := sc.names.lookup x = some .local ∨ sc.names.lookup x = some .cell
def Look (env : Env) (h : Heap) (m : Str → Option Value) (x : Str) (u : Value) : Prop :=
  (env.kindOf x = some .local ∧ m x = some u) ∨ ((env.kindOf x = some .cell ∨ env.kindOf x = some .free) ∧ ∃ c, env.cells.lookup x = some c ∧ h.IsCell c (some u))

structure Cx.Ok (X : Cx) : Prop where
  mod : Mod X.K X.mg X.base
  kind : X.env.scope.kind = .function
  glob : X.env.globals = mainGlobals
  blt : X.env.builtins = builtinsNs
  above : X.s_0.heap.objs.size ≤ X.env.locals
  inj : ∀ x y c, X.env.cells.lookup x = some c → X.env.cells.lookup y = some c → x = y
  has : ∀ x, (X.env.kindOf x = some .cell ∨ X.env.kindOf x = some .free) → ∃ c, X.env.cells.lookup x = some c
  cab : ∀ x c, X.fn x = true → X.env.cells.lookup x = some c → X.s_0.heap.objs.size ≤ c
  hd : X.calm = true → X.A.handled = none
  frames : X.A.frames = some X.stack
  stk : X.stack = X.outer ∨ (X.stack = X.env :: X.outer ∧ X.env.frame = some X.env.locals)
  exf : ∀ b ∈ X.ex, b ≠ X.env.locals ∧ ∀ x c, X.env.cells.lookup x = some c → c ≠ b
  bs : ∀ b o, X.base.get? b = some o → X.s_0.heap.get? b = some o ∧ X.H_0 b = none
  bsz : X.base.objs.size ≤ X.s_0.heap.objs.size
  noex : ∀ b o, X.base.get? b = some o → b ∉ X.ex
  exfs : ∀ b ∈ X.ex, b ∉ X.fs
  funs : X.s_0.heap.FunFrames X.base X.outer
  frf : ∀ b ∈ X.fs, X.H_0 b = none

structure Inv (X : Cx) (pins : List (Addr × Obj)) (σ : List (Option V)) (H : Hp) (s : Shared) : Prop where
  ok : X.Ok
  os : s.os = X.s_0.os
  bare : AllBare s.gens
  base : Un X.fs X.ex X.H_0 H X.s_0.heap s.heap
  loc : ∃ m, s.heap.Ns X.env.locals m ∧ ∀ (i : Nat) (x : Str) (v : V), X.N[i]? = some x → σ[i]? = some (some v) → Vis X.env.scope x → ∃ u, RelV v u ∧ Look X.env s.heap m x u
  cell : ∀ x c, X.env.cells.lookup x = some c → ∃ v, s.heap.IsCell c v
  free : H X.env.locals = none
  freeC : ∀ x c, X.env.cells.lookup x = some c → H c = none
  pin : ∀ p ∈ X.pn ++ pins, s.heap.get? p.1 = some p.2 ∧ H p.1 = none ∧ p.1 ≠ X.env.locals ∧ p.1 ∉ X.fs ∧ ∀ v, p.2.data ≠ .cell v
  hok : HOk X.prog X.w H s.heap
  len : σ.length = X.N.length

section
variable {X : Cx} {pins : List (Addr × Obj)} {σ : List (Option V)} {H H' : Hp} {s : Shared} {h' : Heap}

theorem Cx.Ok.nofr (ok : X.Ok) {b : Addr} {o : Obj} (e : X.base.get? b = some o) : b ∉ X.fs := fun hb => by
  have := (ok.funs.mem hb).1
  rw [e] at this; cases this
theorem Inv.bs (I : Inv X pins σ H s) : ∀ b o, X.base.get? b = some o → s.heap.get? b = some o ∧ H b = none := fun b o e =>
  ⟨I.base.keep b o (I.ok.bs b o e).1 (I.ok.bs b o e).2 (I.ok.nofr e) (I.ok.noex b o e), I.base.free b o (I.ok.bs b o e).1 (I.ok.bs b o e).2 (I.ok.noex b o e)⟩
theorem Inv.bk (I : Inv X pins σ H s) : ∀ b o, X.base.get? b = some o → s.heap.get? b = some o := fun b o e => (I.bs b o e).1
theorem Inv.mod (I : Inv X pins σ H s) : Mod X.K X.mg X.base := I.ok.mod
theorem Inv.kIn (I : Inv X pins σ H s) : X.K.In s.heap := I.ok.mod.kin.keeps I.bk
/-- the frame over the base: for OpenK's rules (K.In X.base is I.mod.kin) -/
theorem Inv.fr (I : Inv X pins σ H s) : ∃ m, Fr X.base X.env.locals s.heap m :=
  let ⟨m, hn, _⟩ := I.loc
  ⟨m, hn, I.bk, Nat.le_trans I.ok.bsz I.ok.above⟩
theorem Inv.lt (I : Inv X pins σ H s) : X.env.locals < s.heap.objs.size := let ⟨_, hn, _⟩ := I.loc; hn.lt
theorem Inv.sz (I : Inv X pins σ H s) : X.s_0.heap.objs.size ≤ s.heap.objs.size := Nat.le_trans I.ok.above (Nat.le_of_lt I.lt)
theorem Inv.nofs (I : Inv X pins σ H s) {a : Addr} (h : s.heap.objs.size ≤ a) : a ∉ X.fs := fun hb => by
  obtain ⟨_, o, ho, _⟩ := I.ok.funs.mem hb
  exact absurd (Nat.lt_of_lt_of_le (Heap.lt_size ho) (Nat.le_trans I.sz h)) (Nat.lt_irrefl _)
theorem Inv.cne (I : Inv X pins σ H s) : ∀ x c, X.env.cells.lookup x = some c → c ≠ X.env.locals := fun x c e z => by
  obtain ⟨v, o, ho, hd⟩ := I.cell x c e
  obtain ⟨m, ⟨o', es, ep, ho', hd', _⟩, _⟩ := I.loc
  rw [z, ho'] at ho; cases ho; rw [hd'] at hd; cases hd
theorem Inv.funs (I : Inv X pins σ H s) : s.heap.FunFrames X.base X.outer := by
  have all : ∀ (l : List Env), (∀ b ∈ frs l, b ∈ X.fs) → X.s_0.heap.FunFrames X.base l → s.heap.FunFrames X.base l := by
    intro l
    induction l with
    | nil => intro _ _; trivial
    | cons env r ih =>
      intro hs hl
      obtain ⟨hk, ⟨L, o, hf, hn, ho, hd⟩, hr⟩ := hl
      have hL : L ∈ X.fs := hs L (by unfold frs; rw [List.filterMap_cons, hf]; exact List.mem_cons_self)
      obtain ⟨sl, e⟩ := I.base.slot L o ho (I.ok.frf L hL) hL fun z => I.ok.exfs L z hL
      exact ⟨hk, ⟨L, _, hf, hn, e, hd⟩, ih (fun b hb => hs b (by unfold frs; rw [List.filterMap_cons, hf]; exact List.mem_cons_of_mem _ hb)) hr⟩
  exact all X.outer (fun _ hb => hb) I.ok.funs

/-- the frames that run, for a call -/
theorem Inv.stack (I : Inv X pins σ H s) : s.heap.FunFrames X.base X.stack := by
  rcases I.ok.stk with e | ⟨e, hf⟩
  · rw [e]; exact I.funs
  · rw [e]
    obtain ⟨m, hn, _⟩ := I.loc
    refine .cons (by rw [I.ok.kind]; decide) hf hn ?_ I.funs
    exact Heap.get?_none_of_le (Nat.le_trans I.ok.bsz I.ok.above)
theorem Inv.stkSub (I : Inv X pins σ H s) : ∀ b ∈ frs X.stack, b ∈ X.env.locals :: X.fs := fun b hb => by
  rcases I.ok.stk with e | ⟨e, hf⟩
  · rw [e] at hb; exact List.mem_cons_of_mem _ hb
  · rw [e] at hb
    unfold frs at hb
    rw [List.filterMap_cons, hf] at hb
    exact hb
theorem Inv.stkFree (I : Inv X pins σ H s) : ∀ b ∈ frs X.stack, H b = none := fun b hb => by
  rcases List.mem_cons.mp (I.stkSub b hb) with e | hb
  · rw [e]; exact I.free
  · obtain ⟨_, o, ho, _⟩ := I.ok.funs.mem hb
    exact I.base.free b o ho (I.ok.frf b hb) fun z => I.ok.exfs b z hb

/-- THE STEP: the untracked objects but the frame and the records at ch are kept (the callers' frames up to slots), the frame's map is kept, the new abstract heap is held -/
theorem Inv.step {g' : Array GenState} {t' : Nat} {d' : Drawn} {ch : List Addr} (I : Inv X pins σ H s)
    (hch : ∀ b ∈ ch, (b ∈ X.ex ∨ X.s_0.heap.objs.size ≤ b) ∧ b ≠ X.env.locals ∧ (∀ x c, X.env.cells.lookup x = some c → c ≠ b) ∧ ∀ p ∈ X.pn ++ pins, p.1 ≠ b)
    (keep : ∀ b o, b ≠ X.env.locals → b ∉ X.fs → b ∉ ch → s.heap.get? b = some o → H b = none → h'.get? b = some o)
    (slot : ∀ b o, b ≠ X.env.locals → b ∈ X.fs → b ∉ ch → s.heap.get? b = some o → H b = none → ∃ sl, h'.get? b = some { o with slots := sl }) (free : ∀ b o, b ∉ ch → s.heap.get? b = some o → H b = none → H' b = none)
    (there : ∀ b o, b ∉ ch → s.heap.get? b = some o → ∃ o', h'.get? b = some o')
    (tups : ∀ b xs, H b = some (.tup xs) → H' b = some (.tup xs)) (frzs : ∀ b o u, H b = some (.frz o u) → H' b = some (.frz o u)) (tbls : ∀ b ps, H b = some (.tbl ps) → ∃ more, H' b = some (.tbl (ps ++ more)))
    (ns : ∀ m, s.heap.Ns X.env.locals m → h'.Ns X.env.locals m) (hok : HOk X.prog X.w H' h') (hg : AllBare g') :
    Inv X pins σ H' { s with heap := h', gens := g', drawn := d', toks := t' } := by
  have neL : ∀ b o, X.s_0.heap.get? b = some o → b ≠ X.env.locals := fun b o e => Nat.ne_of_lt (Nat.lt_of_lt_of_le (Heap.lt_size e) I.ok.above)
  have neC : ∀ b o, X.s_0.heap.get? b = some o → b ∉ X.ex → b ∉ ch := fun b o e hx hb => by
    rcases (hch b hb).1 with z | z
    · exact hx z
    · exact absurd (Nat.lt_of_lt_of_le (Heap.lt_size e) z) (Nat.lt_irrefl _)
  have cellK : ∀ x c, X.env.cells.lookup x = some c → ∀ v, s.heap.IsCell c v → h'.IsCell c v := fun x c e v ⟨o, ho, hd⟩ => by
    have nch : c ∉ ch := fun z => (hch c z).2.2.1 x c e rfl
    by_cases hc : c ∈ X.fs
    · obtain ⟨sl, q⟩ := slot c o (I.cne x c e) hc nch ho (I.freeC x c e)
      exact ⟨_, q, hd⟩
    · exact ⟨o, keep c o (I.cne x c e) hc nch ho (I.freeC x c e), hd⟩
  refine ⟨I.ok, I.os, hg, ⟨fun b o e n hb hx => ?_, fun b o e n hb hx => ?_, fun b o e n hx => ?_, fun b o e hx => ?_, fun b xs e => tups b xs (I.base.tups b xs e), fun b o xs e => frzs b o xs (I.base.frzs b o xs e), fun b ps e => ?_⟩, ?_, fun x c e => ?_, ?_, fun x c e => ?_, fun p hp => ?_, hok, I.len⟩
  · exact keep b o (neL b o e) hb (neC b o e hx) (I.base.keep b o e n hb hx) (I.base.free b o e n hx)
  · obtain ⟨sl, e1⟩ := I.base.slot b o e n hb hx
    obtain ⟨sl', e2⟩ := slot b _ (neL b o e) hb (neC b o e hx) e1 (I.base.free b o e n hx)
    exact ⟨sl', e2⟩
  · obtain ⟨o', e1⟩ := I.base.there b o e hx
    exact free b o' (neC b o e hx) e1 (I.base.free b o e n hx)
  · obtain ⟨o', e1⟩ := I.base.there b o e hx
    exact there b o' (neC b o e hx) e1
  · obtain ⟨m1, e1⟩ := I.base.tbls b ps e
    obtain ⟨m2, e2⟩ := tbls b _ e1
    exact ⟨m1 ++ m2, by rw [e2, Array.append_assoc]⟩
  · obtain ⟨m, hn, hl⟩ := I.loc
    refine ⟨m, ns m hn, fun i x v e1 e2 e3 => ?_⟩
    obtain ⟨u, r, l⟩ := hl i x v e1 e2 e3
    refine ⟨u, r, ?_⟩
    rcases l with l | ⟨k, c, e, z⟩
    · exact .inl l
    · exact .inr ⟨k, c, e, cellK x c e _ z⟩
  · obtain ⟨v, z⟩ := I.cell x c e
    exact ⟨v, cellK x c e v z⟩
  · obtain ⟨m, ⟨o, _, _, ho, _⟩, _⟩ := I.loc
    exact free _ o (fun z => (hch _ z).2.1 rfl) ho I.free
  · obtain ⟨v, o, ho, hd⟩ := I.cell x c e
    exact free c o (fun z => (hch c z).2.2.1 x c e rfl) ho (I.freeC x c e)
  · obtain ⟨e, n, ne, nf, d⟩ := I.pin p hp
    have nch : p.1 ∉ ch := fun z => (hch p.1 z).2.2.2 p hp rfl
    exact ⟨keep p.1 p.2 ne nf nch e n, free p.1 p.2 nch e n, ne, nf, d⟩
/-- .. where the frame's own object is kept too -/
theorem Inv.un {t' : Nat} (I : Inv X pins σ H s) (u : Un X.fs [] H H' s.heap h') (hok : HOk X.prog X.w H' h') : Inv X pins σ H' { s with heap := h', toks := t' } := by
  obtain ⟨m, ⟨o, es, ep, ho, r⟩, _⟩ := id I.loc
  obtain ⟨sl, hL⟩ := u.any ho I.free (by simp)
  exact I.step (g' := s.gens) (d' := s.drawn) (ch := []) (fun _ z => nomatch z) (fun b o _ hb _ e n => u.keep b o e n hb (by simp)) (fun b o _ hb _ e n => u.slot b o e n hb (by simp)) (fun b o _ e n => u.free b o e n (by simp)) (fun b o _ e => u.there b o e (by simp)) u.tups u.frzs u.tbls (fun m' hm => by
    obtain ⟨o', es', ep', ho', r'⟩ := hm
    rw [ho] at ho'; cases ho'
    exact ⟨_, es', ep', hL, r'⟩) hok I.bare
/-- behind a call (or a comprehension's block): the slots of this frame may have changed too, the records at ch may have turned -/
theorem Inv.call {g' : Array GenState} {t' : Nat} {d' : Drawn} {ch : List Addr} (I : Inv X pins σ H s) (u : Un (frs X.stack) ch H H' s.heap h') (hok : HOk X.prog X.w H' h') (hg : AllBare g')
    (hch : ∀ b ∈ ch, (b ∈ X.ex ∨ X.s_0.heap.objs.size ≤ b) ∧ b ≠ X.env.locals ∧ (∀ x c, X.env.cells.lookup x = some c → c ≠ b) ∧ ∀ p ∈ X.pn ++ pins, p.1 ≠ b) :
    Inv X pins σ H' { s with heap := h', gens := g', drawn := d', toks := t' } := by
  obtain ⟨m, ⟨o, es, ep, ho, r⟩, _⟩ := id I.loc
  obtain ⟨sl, hL⟩ := u.any ho I.free fun z => (hch _ z).2.1 rfl
  exact I.step (ch := ch) hch (fun b o hL hb hc e n => u.keep b o e n (fun z => (List.mem_cons.mp (I.stkSub b z)).elim hL hb) hc) (fun b o _ _ hc e n => u.any e n hc) (fun b o hc e n => u.free b o e n hc) (fun b o hc e => u.there b o e hc) u.tups u.frzs u.tbls (fun m' hm => by
    obtain ⟨o', es', ep', ho', r'⟩ := hm
    rw [ho] at ho'; cases ho'
    exact ⟨_, es', ep', hL, r'⟩) hok hg
/-- an untracked record of ours (an iterator) has turned -/
theorem Inv.turned {t' : Nat} {it : Addr} (I : Inv X pins σ H s) (k : ∀ b o, b ≠ it → s.heap.get? b = some o → h'.get? b = some o) (hn : H it = none) (hL : it ≠ X.env.locals)
    (h1 : it ∈ X.ex ∨ X.s_0.heap.objs.size ≤ it) (h2 : ∀ x c, X.env.cells.lookup x = some c → c ≠ it) (h3 : ∀ p ∈ X.pn ++ pins, p.1 ≠ it) : Inv X pins σ H { s with heap := h', toks := t' } := by
  have nit : ∀ b u, H b = some u → b ≠ it := fun b u e z => by rw [z, hn] at e; cases e
  refine I.step (g' := s.gens) (d' := s.drawn) (ch := [it]) (fun b hb => ?_) (fun b o _ _ hc e _ => k b o (fun z => hc (by simp [z])) e) (fun b o _ _ hc e _ => ⟨o.slots, k b o (fun z => hc (by simp [z])) e⟩) (fun _ _ _ _ n => n)
    (fun b o hc e => ⟨o, k b o (fun z => hc (by simp [z])) e⟩) (fun _ _ e => e) (fun _ _ _ e => e) (fun b ps e => ⟨#[], by rw [e]; simp⟩) (fun m hm => ?_) (fun b u e => ?_) I.bare
  · have e : b = it := by simpa using hb
    subst e
    exact ⟨h1, hL, h2, h3⟩
  · obtain ⟨o, es, ep, ho, r⟩ := hm
    exact ⟨o, es, ep, k _ o (Ne.symm hL) ho, r⟩
  · refine (I.hok b u e).stay (fun c v hc q => k c v ?_ q) (fun _ q => q) fun _ _ _ q => q
    rcases hc with z | z
    · rw [z]; exact nit b u e
    · exact nit c _ z
theorem Inv.tok (I : Inv X pins σ H s) (t : Nat) : Inv X pins σ H { s with toks := t } := I.un (h' := s.heap) (t' := t) Un.refl I.hok
/-- all objects kept -/
theorem Inv.kept {t' : Nat} (I : Inv X pins σ H s) (k : ∀ b u, s.heap.get? b = some u → h'.get? b = some u) : Inv X pins σ H { s with heap := h', toks := t' } := I.un (Un.kept k) (I.hok.kept k)
/-- a new object laid and tracked -/
theorem Inv.laid {a : Addr} {o : HO} {t' : Nat} (I : Inv X pins σ H s) (k : ∀ b u, s.heap.get? b = some u → h'.get? b = some u) (hp : s.heap.objs.size ≤ a) (new : ObjOk X.prog X.w (upd H a o) h' a o) :
    Inv X pins σ (upd H a o) { s with heap := h', toks := t' } := I.un (Un.laid k hp (I.hok.fresh hp)) (I.hok.laid k hp new)
/-- an object written -/
theorem Inv.write {x e : Addr} {o : HO} {t' : Nat} (I : Inv X pins σ H s) (mu : Mut (H x)) (he : e = x ∨ H e = some (.own x)) (k : ∀ b u, b ≠ e → s.heap.get? b = some u → h'.get? b = some u) (heo : ∃ u, h'.get? e = some u)
    (new : ObjOk X.prog X.w (upd H x o) h' x o) : Inv X pins σ (upd H x o) { s with heap := h', toks := t' } := I.un (Un.write mu he k heo) (I.hok.write mu he k heo new)
/-- forgetting slots, pins -/
theorem Inv.weak {σ' : List (Option V)} (I : Inv X pins σ H s) (hl : σ'.length = σ.length) (w : ∀ (i : Nat) v, σ'[i]? = some (some v) → σ[i]? = some (some v)) : Inv X pins σ' H s :=
  ⟨I.ok, I.os, I.bare, I.base, let ⟨m, hn, hl'⟩ := I.loc; ⟨m, hn, fun i x v e1 e2 e3 => hl' i x v e1 (w i v e2) e3⟩, I.cell, I.free, I.freeC, I.pin, I.hok, hl.trans I.len⟩
theorem Inv.pins_of {pins' : List (Addr × Obj)} (I : Inv X pins σ H s) (h : ∀ p ∈ pins', s.heap.get? p.1 = some p.2 ∧ H p.1 = none ∧ p.1 ≠ X.env.locals ∧ p.1 ∉ X.fs ∧ ∀ v, p.2.data ≠ .cell v) : Inv X pins' σ H s :=
  ⟨I.ok, I.os, I.bare, I.base, I.loc, I.cell, I.free, I.freeC, fun p hp => (List.mem_append.mp hp).elim (fun z => I.pin p (List.mem_append_left _ z)) (h p), I.hok, I.len⟩

theorem nodup_ix {N : List Str} (hN : N.Nodup) {i j : Nat} {x : Str} (a : N[i]? = some x) (b : N[j]? = some x) : i = j := by
  obtain ⟨h1, e1⟩ := List.getElem?_eq_some_iff.mp a
  obtain ⟨h2, e2⟩ := List.getElem?_eq_some_iff.mp b
  exact (List.getElem_inj hN).mp (e1.trans e2.symm)

/-- a name is stored; what changed -/
theorem store_ok2 {M : Model} {A : Around} {E : Value → Shared → Prop} {i : Nat} {x : Str} {v : V} {u : Value} {Q : Unit → Shared → Prop} (I : Inv X pins σ H s) (hN : X.N.Nodup) (hi : X.N[i]? = some x) (hx : Loc X.env.scope x) (r : RelV v u)
    (h : ∀ s', Inv X pins (σ.set i (some v)) H s' → (∃ a, Heap.SameBut a s.heap s'.heap ∧ (a = X.env.locals ∨ X.env.cells.lookup x = some a)) → Q () s') (hf : X.fn x = true ∨ X.env.scope.names.lookup x = some .local := by first | exact .inl rfl | exact .inr rfl | assumption) : wpAny M A (storeName X.env x u) Q E s := by
  obtain ⟨m, hn, hl⟩ := id I.loc
  have hcls : (X.env.scope.kind == .class || (X.env.scope.kind == .module && X.env.locals != X.env.globals)) = false := by rw [I.ok.kind]; rfl
  have hiσ : i < σ.length := by rw [I.len]; exact (List.getElem?_eq_some_iff.mp hi).1
  have cne := I.cne
  have tracked : ∀ {a : Addr} {h' : Heap}, (∃ o, s.heap.get? a = some o ∧ H a = none) → Heap.SameBut a s.heap h' → HOk X.prog X.w H h' := fun {a h'} ha hs b ob e => by
    obtain ⟨_, _, hfree⟩ := ha
    refine (I.hok b ob e).stay (fun c w' hc q => (hs.2 c ?_).trans q) (fun _ q => q) fun _ _ _ q => q
    rintro rfl
    rcases hc with rfl | hc
    · rw [hfree] at e; cases e
    · rw [hfree] at hc; cases hc
  rcases hx with hk | hk
  · refine wpAny_storeName_local hk hn (fun h' hn' hs => ?_) hcls
    obtain ⟨oL, _, _, hoL, _⟩ := id hn
    refine h _ ⟨I.ok, I.os, I.bare, ⟨fun b o e n hb hx => ?_, fun b o e n hb hx => ?_, I.base.free, fun b o e hx => ?_, I.base.tups, I.base.frzs, I.base.tbls⟩, ⟨_, hn', fun j y v' e1 e2 e3 => ?_⟩, fun y c e => ?_, I.free, I.freeC, fun p hp => ?_, tracked ⟨oL, hoL, I.free⟩ hs, by simpa using I.len⟩ ⟨_, hs, .inl rfl⟩
    · exact (hs.2 b (Nat.ne_of_lt (Nat.lt_of_lt_of_le (Heap.lt_size e) I.ok.above))).trans (I.base.keep b o e n hb hx)
    · obtain ⟨sl, e1⟩ := I.base.slot b o e n hb hx
      exact ⟨sl, (hs.2 b (Nat.ne_of_lt (Nat.lt_of_lt_of_le (Heap.lt_size e) I.ok.above))).trans e1⟩
    · obtain ⟨o', e1⟩ := I.base.there b o e hx
      exact ⟨o', (hs.2 b (Nat.ne_of_lt (Nat.lt_of_lt_of_le (Heap.lt_size e) I.ok.above))).trans e1⟩
    · by_cases hj : j = i
      · subst hj
        rw [hi] at e1; cases e1
        rw [List.getElem?_set_self hiσ] at e2
        cases e2
        exact ⟨u, r, .inl ⟨hk, by simp⟩⟩
      · rw [List.getElem?_set_ne (Ne.symm hj)] at e2
        obtain ⟨u', r', q⟩ := hl j y v' e1 e2 e3
        refine ⟨u', r', ?_⟩
        rcases q with ⟨k, e⟩ | ⟨k, c, e, z⟩
        · refine .inl ⟨k, ?_⟩
          have : y ≠ x := fun e => hj (nodup_ix hN e1 (e ▸ hi))
          simp [this, e]
        · exact .inr ⟨k, c, e, z.sameBut hs (cne y c e)⟩
    · obtain ⟨w', z⟩ := I.cell y c e
      exact ⟨w', z.sameBut hs (cne y c e)⟩
    · obtain ⟨e, n, ne, nf, d⟩ := I.pin p hp
      exact ⟨(hs.2 p.1 ne).trans e, n, ne, nf, d⟩
  · have hfn : X.fn x = true := by
      rcases hf with z | z
      · exact z
      · rw [z] at hk; cases hk
    obtain ⟨c, hc⟩ := I.ok.has x (.inl hk)
    obtain ⟨w', z⟩ := I.cell x c hc
    refine wpAny_storeName_cell I.ok.kind hk hc z (fun h' hc' hs => ?_)
    obtain ⟨oc, hoc, hocd⟩ := id z
    refine h { s with heap := h' } ⟨I.ok, I.os, I.bare, ⟨fun b o e n hb hx => ?_, fun b o e n hb hx => ?_, I.base.free, fun b o e hx => ?_, I.base.tups, I.base.frzs, I.base.tbls⟩, ⟨m, hn.sameBut hs (Ne.symm (cne x c hc)), fun j y v' e1 e2 e3 => ?_⟩, fun y c' e => ?_, I.free, I.freeC, fun p hp => ?_, tracked ⟨oc, hoc, I.freeC x c hc⟩ hs, by simpa using I.len⟩ ⟨c, hs, .inr hc⟩
    · exact (hs.2 b (Nat.ne_of_lt (Nat.lt_of_lt_of_le (Heap.lt_size e) (I.ok.cab x c hfn hc)))).trans (I.base.keep b o e n hb hx)
    · obtain ⟨sl, e1⟩ := I.base.slot b o e n hb hx
      exact ⟨sl, (hs.2 b (Nat.ne_of_lt (Nat.lt_of_lt_of_le (Heap.lt_size e) (I.ok.cab x c hfn hc)))).trans e1⟩
    · obtain ⟨o', e1⟩ := I.base.there b o e hx
      exact ⟨o', (hs.2 b (Nat.ne_of_lt (Nat.lt_of_lt_of_le (Heap.lt_size e) (I.ok.cab x c hfn hc)))).trans e1⟩
    · by_cases hj : j = i
      · subst hj
        rw [hi] at e1; cases e1
        rw [List.getElem?_set_self hiσ] at e2
        cases e2
        exact ⟨u, r, .inr ⟨.inl hk, c, hc, hc'⟩⟩
      · rw [List.getElem?_set_ne (Ne.symm hj)] at e2
        obtain ⟨u', r', q⟩ := hl j y v' e1 e2 e3
        refine ⟨u', r', ?_⟩
        rcases q with q | ⟨k, c', e, z'⟩
        · exact .inl q
        · refine .inr ⟨k, c', e, z'.sameBut hs ?_⟩
          rintro rfl
          exact hj (nodup_ix hN e1 (I.ok.inj _ _ _ e hc ▸ hi))
    · by_cases hcc : c' = c
      · subst hcc; exact ⟨_, hc'⟩
      · obtain ⟨w2, z2⟩ := I.cell y c' e
        exact ⟨w2, z2.sameBut hs hcc⟩
    · obtain ⟨e, n, ne, nf, d⟩ := I.pin p hp
      refine ⟨(hs.2 p.1 ?_).trans e, n, ne, nf, d⟩
      intro q
      rw [q, hoc] at e
      have q' : oc = p.2 := Option.some.inj e
      exact d w' (by rw [← q']; exact hocd)
theorem store_ok {M : Model} {A : Around} {E : Value → Shared → Prop} {i : Nat} {x : Str} {v : V} {u : Value} {Q : Unit → Shared → Prop} (I : Inv X pins σ H s) (hN : X.N.Nodup) (hi : X.N[i]? = some x) (hx : Loc X.env.scope x) (r : RelV v u)
    (h : ∀ s', Inv X pins (σ.set i (some v)) H s' → Q () s') (hf : X.fn x = true ∨ X.env.scope.names.lookup x = some .local := by first | exact .inl rfl | exact .inr rfl | assumption) : wpAny M A (storeName X.env x u) Q E s :=
  store_ok2 I hN hi hx r (fun s' I' _ => h s' I') hf
/-- behind a call or a block, the state as it is -/
theorem Inv.call' {s' : Shared} {ch : List Addr} (I : Inv X pins σ H s) (ho : s'.os = s.os) (u : Un (frs X.stack) ch H H' s.heap s'.heap) (hok : HOk X.prog X.w H' s'.heap) (hg : AllBare s'.gens)
    (hch : ∀ b ∈ ch, (b ∈ X.ex ∨ X.s_0.heap.objs.size ≤ b) ∧ b ≠ X.env.locals ∧ (∀ x c, X.env.cells.lookup x = some c → c ≠ b) ∧ ∀ p ∈ X.pn ++ pins, p.1 ≠ b) : Inv X pins σ H' s' := by
  obtain ⟨h', g', d', t', o'⟩ := s'
  have e : o' = s.os := ho
  subst e
  exact I.call (g' := g') (t' := t') (d' := d') u hok hg hch
end

/-! ### the judgements -/
/-- an exception: its class, its own dict's address (where it has one), the abstract heap behind it -/
abbrev XK := Value → Option Addr → Hp → Prop
abbrev St := List (Option V)
abbrev VK := V → Hp → Prop
/-- an expression's reading; a test's; an argument list's -/
abbrev TE := St → Hp → VK → Prop
abbrev TT := St → Hp → (Bool → Hp → Prop) → Prop
abbrev TA := St → Hp → (List V → Hp → Prop) → Prop
/-- what is wanted behind a statement -/
structure Ends where
  nx : St → Hp → Prop
  rt : VK
  bk : St → Hp → Prop := fun _ _ => False
  ct : St → Hp → Prop := fun _ _ => False
abbrev TS := Ends → St → Hp → Prop

def EP (X : Cx) (pins : List (Addr × Obj)) (σ : St) (Q : VK) (u : Value) (s' : Shared) : Prop := ∃ v H', Inv X pins σ H' s' ∧ RelV v u ∧ Q v H'
def TP (X : Cx) (pins : List (Addr × Obj)) (σ : St) (Q : Bool → Hp → Prop) (b : Bool) (s' : Shared) : Prop := ∃ H', Inv X pins σ H' s' ∧ Q b H'
def AP (X : Cx) (pins : List (Addr × Obj)) (σ : St) (Q : List V → Hp → Prop) (us : List Value) (s' : Shared) : Prop := ∃ vs H', Inv X pins σ H' s' ∧ Vals vs us ∧ Q vs H'
def SP (X : Cx) (pins : List (Addr × Obj)) (D : Ends) (f : Flow) (s' : Shared) : Prop :=
  match f with
  | .next => ∃ σ' H', Inv X pins σ' H' s' ∧ D.nx σ' H'
  | .brk => ∃ σ' H', Inv X pins σ' H' s' ∧ D.bk σ' H'
  | .cont => ∃ σ' H', Inv X pins σ' H' s' ∧ D.ct σ' H'
  | .ret u => ∃ v σ' H', Inv X pins σ' H' s' ∧ RelV v u ∧ D.rt v H'

def PE (X : Cx) (e : Expr) (t : TE) : Prop :=
  ∀ (pins : List (Addr × Obj)) (s : Shared) (σ : St) (H : Hp) (Q : VK), Inv X pins σ H s → t σ H Q → wpAny (model X.prog X.w) X.A (eval e X.env) (EP X pins σ Q) X.xe s
def PT (X : Cx) (e : Expr) (t : TT) : Prop :=
  ∀ (pins : List (Addr × Obj)) (s : Shared) (σ : St) (H : Hp) (Q : Bool → Hp → Prop), Inv X pins σ H s → t σ H Q → wpAny (model X.prog X.w) X.A (isTrue e X.env (eval e X.env)) (TP X pins σ Q) X.xe s
/-- a test whatever its 'whole' is (and, or) -/
def PW (X : Cx) (e : Expr) (t : TT) : Prop :=
  ∀ (whole : Sem Value) (pins : List (Addr × Obj)) (s : Shared) (σ : St) (H : Hp) (Q : Bool → Hp → Prop), Inv X pins σ H s → t σ H Q → wpAny (model X.prog X.w) X.A (isTrue e X.env whole) (TP X pins σ Q) X.xe s
theorem PW.pt {X : Cx} {e : Expr} {t : TT} (h : PW X e t) : PT X e t := h _
/-- an argument list (no star), from the left -/
def PA (X : Cx) (es : List Expr) (t : TA) : Prop :=
  ∀ (pos : Pos) (pins : List (Addr × Obj)) (s : Shared) (σ : St) (H : Hp) (Q : List V → Hp → Prop), Inv X pins σ H s → t σ H Q → wpAny (model X.prog X.w) X.A (spliced (backTo pos (starEach es X.env))) (AP X pins σ Q) X.xe s
def PS (X : Cx) (st : Stmt) (t : TS) : Prop :=
  ∀ (pins : List (Addr × Obj)) (s : Shared) (σ : St) (H : Hp) (D : Ends), Inv X pins σ H s → t D σ H → wpAny (model X.prog X.w) X.A (exec st X.env) (SP X pins D) X.xe s
def PSs (X : Cx) (st : List Stmt) (t : TS) : Prop :=
  ∀ (pins : List (Addr × Obj)) (s : Shared) (σ : St) (H : Hp) (D : Ends), Inv X pins σ H s → t D σ H → wpAny (model X.prog X.w) X.A (execs st X.env) (SP X pins D) X.xe s
/-- weaken the end -/
theorem thn {α : Type} {t : Sem α} {Q Q' : α → Shared → Prop} {M : Model} {A : Around} {E : Value → Shared → Prop} {s : Shared} (h : wpAny M A t Q E s) (hQ : ∀ a s, Q a s → Q' a s) : wpAny M A t Q' E s := wpAny_mono h hQ fun _ _ x => x
end L2

namespace L2
open PySem PySem.Spec PyProof.Rows
section
variable {X : Cx}

/-! ### names and constants -/
def tVar (i : Nat) : TE := fun σ H Q => ∃ v, σ[i]? = some (some v) ∧ Q v H
def tC (v : V) : TE := fun _ H Q => Q v H
theorem pe_var {i : Nat} {x : Str} {pos : Pos} (hN : X.N[i]? = some x) (hv : Vis X.env.scope x) (hd : (x == ("__debug__" : Str)) = false := by decide) (hcd : (x == ("__classdict__" : Str)) = false := by decide) : PE X (.Name x pos) (tVar i) := by
  intro pins s σ H Q I h
  obtain ⟨v, e, h⟩ := h
  obtain ⟨m, hn, hl⟩ := I.loc
  obtain ⟨u, r, l⟩ := hl i x v hN e hv
  have fin : EP X pins σ Q u s := ⟨v, H, I, r, h⟩
  rcases l with ⟨hk, hm⟩ | ⟨hk, c, hc, hcell⟩
  · exact wpAny_Name (wpAny_loadName_local I.ok.kind hk hn hm fin) hd
  · rcases hk with hk | hk
    · exact wpAny_Name (wpAny_loadName_cell I.ok.kind hk hc hcell fin) hd
    · exact wpAny_Name (wpAny_loadName_free I.ok.kind hk hc hcell fin hcd) hd
theorem pe_int {i j pos} : PE X (.Constant (.int i) j pos) (tC (.int i)) := fun _ _ _ H _ I h => wpAny_Constant_int ⟨.int i, H, I.tok _, ⟨_, rfl⟩, h⟩
theorem pe_bl {b j pos} : PE X (.Constant (.bool b) j pos) (tC (.bl b)) := fun _ _ _ H _ I h => Constant_bool ⟨.bl b, H, I, rfl, h⟩
theorem pe_non {j pos} : PE X (.Constant .none j pos) (tC .non) := fun _ _ _ H _ I h => Constant_none ⟨.non, H, I, rfl, h⟩
theorem pe_str {x j pos} : PE X (.Constant (.str x) j pos) (tC (.str x)) := fun _ _ _ H _ I h => Calls.Constant_str ⟨.str x, H, I.tok _, ⟨_, rfl⟩, h⟩

/-- a global name of the def -/
def Gl (X : Cx) (x : Str) : Prop := X.env.kindOf x = some .globalImplicit
theorem ld_glob {E : Value → Shared → Prop} {pins : List (Addr × Obj)} {s : Shared} {σ : St} {H : Hp} {x : Str} {u : Value} {pos : Pos} {Q : Value → Shared → Prop} (I : Inv X pins σ H s) (hg : Gl X x) (hm : X.mg x = some u) (h : Q u s)
    (hd : (x == ("__debug__" : Str)) = false := by decide) : wpAny (model X.prog X.w) X.A (eval (.Name x pos) X.env) Q E s :=
  Calls.Name_function_global I.ok.kind hg (Calls.loadGlobal_global (by rw [I.ok.glob]; exact I.mod.glob.keeps I.bk) hm h) hd
theorem ld_blt {E : Value → Shared → Prop} {pins : List (Addr × Obj)} {s : Shared} {σ : St} {H : Hp} {x : Str} {u : Value} {pos : Pos} {Q : Value → Shared → Prop} (I : Inv X pins σ H s) (hg : Gl X x) (hm : X.mg x = none) (hv : bootBuiltins x = some u) (h : Q u s)
    (hn : x ≠ "__name__" := by decide) (hd : (x == ("__debug__" : Str)) = false := by decide) : wpAny (model X.prog X.w) X.A (eval (.Name x pos) X.env) Q E s := by
  obtain ⟨mb, h1, h2⟩ := I.mod.blt
  exact Calls.Name_function_global I.ok.kind hg (Calls.loadGlobal_builtin (by rw [I.ok.glob]; exact I.mod.glob.keeps I.bk) hm (by rw [I.ok.blt]; exact h1.keeps I.bk) ((h2 x hn).trans hv) h) hd
/-- a module's constant, a class, a function, as a value -/
theorem pe_glob {x : Str} {v : V} {u : Value} {pos : Pos} (hg : Gl X x) (hm : X.mg x = some u) (r : RelV v u) (hd : (x == ("__debug__" : Str)) = false := by decide) : PE X (.Name x pos) (tC v) :=
  fun _ _ _ H _ I h => ld_glob I hg hm ⟨v, H, I, r, h⟩ hd
theorem pe_bltn {x : Str} {v : V} {u : Value} {pos : Pos} (hg : Gl X x) (hm : X.mg x = none) (hv : bootBuiltins x = some u) (r : RelV v u) (hn : x ≠ "__name__" := by decide) (hd : (x == ("__debug__" : Str)) = false := by decide) : PE X (.Name x pos) (tC v) :=
  fun _ _ _ H _ I h => ld_blt I hg hm hv ⟨v, H, I, r, h⟩ hn hd

/-! ### arithmetic -/
/-- two ints -/
def t2I (ta tb : TE) (k : Int → Int → Hp → Prop) : St → Hp → Prop := fun σ H => ta σ H fun x H1 => tb σ H1 fun y H2 => ∃ i j, x = .int i ∧ y = .int j ∧ k i j H2
def tAdd (ta tb : TE) : TE := fun σ H Q => t2I ta tb (fun i j H2 => Q (.int (i + j)) H2) σ H
def tSub (ta tb : TE) : TE := fun σ H Q => t2I ta tb (fun i j H2 => Q (.int (i - j)) H2) σ H
/-- the left factor below 2^64 -/
def tMul (ta tb : TE) : TE := fun σ H Q => t2I ta tb (fun i j H2 => (-(2 ^ 64) < i ∧ i < 2 ^ 64) ∧ Q (.int (i * j)) H2) σ H
variable {a b : Expr} {ta tb : TE} {pos : Pos}
/-! ### comparisons -/
def PC (X : Cx) (op : CmpOp) (a b : Expr) (t : TE) : Prop :=
  ∀ (pins : List (Addr × Obj)) (s : Shared) (σ : St) (H : Hp) (Q : VK), Inv X pins σ H s → t σ H Q →
    wpAny (model X.prog X.w) X.A (eval a X.env) (fun v s₁ => wpAny (model X.prog X.w) X.A (eval b X.env) (fun u s₂ => wpAny (model X.prog X.w) X.A (compareOp op v u) (EP X pins σ Q) X.xe s₂) X.xe s₁) X.xe s
def tCmp (p : Int → Int → Bool) (ta tb : TE) : TE := fun σ H Q => t2I ta tb (fun i j H2 => Q (.bl (p i j)) H2) σ H
abbrev tLt : TE → TE → TE := tCmp fun i j => decide (i < j)
abbrev tLe : TE → TE → TE := tCmp fun i j => decide (i ≤ j)
abbrev tGt : TE → TE → TE := tCmp fun i j => decide (j < i)
abbrev tGe : TE → TE → TE := tCmp fun i j => decide (j ≤ i)
abbrev tEqI : TE → TE → TE := tCmp fun i j => decide (i = j)
abbrev tNeI : TE → TE → TE := tCmp fun i j => !decide (i = j)
/-- is None -/
def tIsN (ta : TE) : TE := fun σ H Q => ta σ H fun x H1 => Q (.bl (decide (x = .non))) H1
def tNotN (ta : TE) : TE := fun σ H Q => ta σ H fun x H1 => Q (.bl (!decide (x = .non))) H1
/-- a comparison as a value, as a test -/
def tB (t : TE) : TT := fun σ H Q => t σ H fun x H1 => ∃ c, x = .bl c ∧ Q c H1
/-- an expression whose value is a bool, as a test -/
theorem pt_val {e : Expr} {t : TE} (h : PE X e t) (he : ∀ whole, isTrue e X.env whole = (do let v ← whole; standAt e.pos; holding [v] (truthy v)) := by intro _; rfl) : PT X e (tB t) := by
  intro pins s σ H Q I hw
  refine isTrue_plain (thn (h pins s σ H _ I hw) fun v s1 ⟨x, H1, I1, r1, q1⟩ => ?_) (he _)
  obtain ⟨d, rfl, q⟩ := q1
  cases r1
  exact wpAny_truthy_bool ⟨H1, I1, q⟩

/-! ### and, or, not -/
variable {tA tB' : TT} {rest : List Expr}
def tAnd (t u : TT) : TT := fun σ H Q => t σ H fun c H1 => if c = true then u σ H1 Q else Q false H1
def tOr (t u : TT) : TT := fun σ H Q => t σ H fun c H1 => if c = true then Q true H1 else u σ H1 Q
def tNot (t : TT) : TT := fun σ H Q => t σ H fun c H1 => Q (!c) H1
theorem pw_and1 (ha : PT X a tA) : PW X (.BoolOp .And [a] pos) tA := by
  intro wh pins s σ H Q I h
  refine isTrue_and (thn (ha pins s σ H Q I h) fun c s1 e => ?_)
  cases c with
  | true => exact isTrue_and_nil e
  | false => exact e
theorem pw_or1 (ha : PT X a tA) : PW X (.BoolOp .Or [a] pos) tA := by
  intro wh pins s σ H Q I h
  refine isTrue_or (thn (ha pins s σ H Q I h) fun c s1 e => ?_)
  cases c with
  | false => exact isTrue_or_nil e
  | true => exact e
theorem pw_and (ha : PT X a tA) (hb : PW X (.BoolOp .And (b :: rest) pos) tB') : PW X (.BoolOp .And (a :: b :: rest) pos) (tAnd tA tB') := by
  intro wh pins s σ H Q I h
  refine isTrue_and (thn (ha pins s σ H _ I h) fun c s1 ⟨H1, I1, q1⟩ => ?_)
  cases c with
  | true => exact hb wh pins s1 σ H1 Q I1 q1
  | false => exact ⟨H1, I1, q1⟩
theorem pw_or (ha : PT X a tA) (hb : PW X (.BoolOp .Or (b :: rest) pos) tB') : PW X (.BoolOp .Or (a :: b :: rest) pos) (tOr tA tB') := by
  intro wh pins s σ H Q I h
  refine isTrue_or (thn (ha pins s σ H _ I h) fun c s1 ⟨H1, I1, q1⟩ => ?_)
  cases c with
  | true => exact ⟨H1, I1, q1⟩
  | false => exact hb wh pins s1 σ H1 Q I1 q1
theorem pt_not (ha : PT X a tA) : PT X (.UnaryOp .Not a pos) (tNot tA) := by
  intro pins s σ H Q I h
  exact isTrue_not (ha pins s σ H (fun c H1 => Q (!c) H1) I h)
/-- .. as values (bools) -/
def tAndV (ta tb : TE) : TE := fun σ H Q => ta σ H fun x H1 => ∃ c, x = .bl c ∧ if c = true then tb σ H1 Q else Q (.bl false) H1
def tOrV (ta tb : TE) : TE := fun σ H Q => ta σ H fun x H1 => ∃ c, x = .bl c ∧ if c = true then Q (.bl true) H1 else tb σ H1 Q
def tNotV (ta : TE) : TE := fun σ H Q => ta σ H fun x H1 => ∃ c, x = .bl c ∧ Q (.bl (!c)) H1
theorem pe_one {op} {t : TE} (h : PE X a t) : PE X (.BoolOp op [a] pos) t := fun pins s σ H Q I hw => BoolOp_one (h pins s σ H Q I hw)
theorem pe_and (ha : PE X a ta) (hb : PE X (.BoolOp .And (b :: rest) pos) tb) : PE X (.BoolOp .And (a :: b :: rest) pos) (tAndV ta tb) := by
  intro pins s σ H Q I h
  refine BoolOp_and (thn (ha pins s σ H _ I h) fun v s1 ⟨x, H1, I1, r1, q1⟩ => ?_)
  obtain ⟨c, rfl, q1⟩ := q1
  cases r1
  refine wpAny_truthy_bool ?_
  cases c with
  | true => exact hb pins s1 σ H1 Q I1 q1
  | false => exact ⟨.bl false, H1, I1, rfl, q1⟩
theorem pe_not (ha : PE X a ta) : PE X (.UnaryOp .Not a pos) (tNotV ta) := by
  intro pins s σ H Q I h
  refine UnaryOp_ (thn (ha pins s σ H _ I h) fun v s1 ⟨x, H1, I1, r1, q1⟩ => ?_)
  obtain ⟨c, rfl, q1⟩ := q1
  cases r1
  exact not_of (wpAny_truthy_bool ⟨.bl (!c), H1, I1, rfl, q1⟩)
/-- a if t else b -/
def tIf (t : TT) (ta tb : TE) : TE := fun σ H Q => t σ H fun c H1 => if c = true then ta σ H1 Q else tb σ H1 Q
theorem pe_ifExp {c : Expr} (hc : PT X c tA) (ha : PE X a ta) (hb : PE X b tb) : PE X (.IfExp c a b pos) (tIf tA ta tb) := by
  intro pins s σ H Q I h
  refine wpAny_IfExp (thn (hc pins s σ H _ I h) fun d s1 ⟨H1, I1, q1⟩ => ?_)
  cases d with
  | true => exact ha pins s1 σ H1 Q I1 q1
  | false => exact hb pins s1 σ H1 Q I1 q1
end
end L2

namespace L2
open PySem PySem.Spec PyProof.Rows

/-! ### a list, a tuple that is read: tracked, frozen, or an object of the module -/
def SqL (K : PySem.W.Frag) (H : Hp) (a : Addr) (xs : List V) : Prop :=
  Rd H a (.lst xs) ∨
    ∃ (o : Obj) (its : Array Value) (n : Nat), K.lookup a = some o ∧ o.cls = .type "list" ∧ o.dict = none ∧ o.data = .seq its n ∧ its.size ≤ sizeLine ∧ Vals xs its.toList
def SqT (K : PySem.W.Frag) (H : Hp) (a : Addr) (xs : List V) : Prop :=
  Rd H a (.tup xs) ∨
    ∃ (o : Obj) (its : Array Value) (n : Nat), K.lookup a = some o ∧ o.cls = .type "tuple" ∧ o.data = .seq its n ∧ its.size ≤ sizeLine ∧ Vals xs its.toList
def absV : Value → Option V
  | .none => some .non
  | .bool b => some (.bl b)
  | .int i _ => some (.int i)
  | .str x _ => some (.str x)
  | .bytes b _ => some (.byt b)
  | .float b _ => some (.flt b)
  | .ref a => some (.ref a)
  | .type n => some (.ty n)
  | _ => none
theorem RelV.abs {x : V} {u : Value} (r : RelV x u) : absV u = some x := by
  cases x with
  | non => cases r; rfl
  | bl _ => cases r; rfl
  | int _ => obtain ⟨t, rfl⟩ := r; rfl
  | str _ => obtain ⟨t, rfl⟩ := r; rfl
  | byt _ => obtain ⟨t, rfl⟩ := r; rfl
  | flt _ => obtain ⟨t, rfl⟩ := r; rfl
  | ref _ => cases r; rfl
  | ty _ => cases r; rfl
theorem RelV.inj {x y : V} {u : Value} (r : RelV x u) (q : RelV y u) : x = y := Option.some.inj (r.abs.symm.trans q.abs)
theorem Vals.inj : ∀ {xs ys : List V} {us : List Value}, Vals xs us → Vals ys us → xs = ys
  | _, _, _, .nil, .nil => rfl
  | _, _, _, .cons r t, .cons r' t' => by rw [r.inj r', Vals.inj t t']
section
variable {X : Cx} {pins : List (Addr × Obj)} {σ : St} {H : Hp} {s : Shared} {a : Addr} {xs ys : List V}
theorem SqL.of {K : PySem.W.Frag} (h : H a = some (.lst xs)) : SqL K H a xs := .inl (.inl h)
theorem SqT.of {K : PySem.W.Frag} (h : H a = some (.tup xs)) : SqT K H a xs := .inl (.inl h)
theorem Inv.list (I : Inv X pins σ H s) (h : SqL X.K H a xs) : ∃ its : List Value, Vals xs its ∧ PlainL s.heap a its.toArray ∧ xs.length ≤ sizeLine := by
  rcases h with h | ⟨o, its, n, hk, hc, hd, hs, hz, r⟩
  · obtain ⟨z, its, n, r, e⟩ := h.ok I.hok
    exact ⟨its, r, ⟨_, n, e, rfl, rfl, rfl⟩, z⟩
  · refine ⟨its.toList, r, ⟨o, n, I.kIn a o hk, hc, hd, by simpa using hs⟩, ?_⟩
    have e := r.length
    simp only [Array.length_toList] at e
    omega
theorem Inv.tuple (I : Inv X pins σ H s) (h : SqT X.K H a xs) : ∃ its : List Value, Vals xs its ∧ IsTup s.heap a its.toArray ∧ xs.length ≤ sizeLine := by
  rcases h with h | ⟨o, its, n, hk, hc, hs, hz, r⟩
  · obtain ⟨z, its, r, p⟩ := h.ok I.hok
    exact ⟨its, r, p, z⟩
  · refine ⟨its.toList, r, ⟨o, I.kIn a o hk, hc, n, by simpa using hs⟩, ?_⟩
    have e := r.length
    simp only [Array.length_toList] at e
    omega
theorem Inv.list_inj (I : Inv X pins σ H s) (h : SqL X.K H a xs) (h' : SqL X.K H a ys) : xs = ys := by
  obtain ⟨its, r, ⟨o, n, e, _, _, d⟩, _⟩ := I.list h
  obtain ⟨its', r', ⟨o', n', e', _, _, d'⟩, _⟩ := I.list h'
  rw [e] at e'; cases e'
  rw [d] at d'
  injection d' with d1 _
  have : its = its' := by simpa using congrArg Array.toList d1
  subst this
  exact r.inj r'
theorem Inv.tuple_inj (I : Inv X pins σ H s) (h : SqT X.K H a xs) (h' : SqT X.K H a ys) : xs = ys := by
  obtain ⟨its, r, ⟨o, e, _, n, d⟩, _⟩ := I.tuple h
  obtain ⟨its', r', ⟨o', e', _, n', d'⟩, _⟩ := I.tuple h'
  rw [e] at e'; cases e'
  rw [d] at d'
  injection d' with d1 _
  have : its = its' := by simpa using congrArg Array.toList d1
  subst this
  exact r.inj r'
end

/-! ### another wish about exceptions -/
abbrev Cx.wish (X : Cx) (E : Value → Shared → Prop) : Cx := { X with xe := E }
/-- no exception leaves -/
abbrev Cx.nox (X : Cx) : Cx := X.wish fun _ _ => False
theorem Cx.Ok.wish {X : Cx} (ok : X.Ok) (E : Value → Shared → Prop) : (X.wish E).Ok :=
  ⟨ok.mod, ok.kind, ok.glob, ok.blt, ok.above, ok.inj, ok.has, ok.cab, ok.hd, ok.frames, ok.stk, ok.exf, ok.bs, ok.bsz, ok.noex, ok.exfs, ok.funs, ok.frf⟩
theorem Cx.Ok.unwish {X : Cx} {E : Value → Shared → Prop} (ok : (X.wish E).Ok) : X.Ok :=
  ⟨ok.mod, ok.kind, ok.glob, ok.blt, ok.above, ok.inj, ok.has, ok.cab, ok.hd, ok.frames, ok.stk, ok.exf, ok.bs, ok.bsz, ok.noex, ok.exfs, ok.funs, ok.frf⟩
section
variable {X : Cx} {pins : List (Addr × Obj)} {σ : St} {H : Hp} {s : Shared} {E : Value → Shared → Prop}
theorem Inv.wish (I : Inv X pins σ H s) (E : Value → Shared → Prop) : Inv (X.wish E) pins σ H s := ⟨I.ok.wish E, I.os, I.bare, I.base, I.loc, I.cell, I.free, I.freeC, I.pin, I.hok, I.len⟩
theorem Inv.unwish (I : Inv (X.wish E) pins σ H s) : Inv X pins σ H s := ⟨I.ok.unwish, I.os, I.bare, I.base, I.loc, I.cell, I.free, I.freeC, I.pin, I.hok, I.len⟩
theorem SP.unwish {D : Ends} {f : Flow} {s' : Shared} (h : SP (X.wish E) pins D f s') : SP X pins D f s' := by
  cases f with
  | next => obtain ⟨σ', H', I, q⟩ := h; exact ⟨σ', H', I.unwish, q⟩
  | brk => obtain ⟨σ', H', I, q⟩ := h; exact ⟨σ', H', I.unwish, q⟩
  | cont => obtain ⟨σ', H', I, q⟩ := h; exact ⟨σ', H', I.unwish, q⟩
  | ret u => obtain ⟨v, σ', H', I, r, q⟩ := h; exact ⟨v, σ', H', I.unwish, r, q⟩
theorem PSs.nox {st : List Stmt} {t : TS} (h : PSs X.nox st t) : PSs X st t := fun pins s σ H D I hw =>
  wpAny_mono (h pins s σ H D (I.wish _) hw) (fun _ _ q => q.unwish) fun _ _ z => False.elim z
end

/-! ### blocks and small statements -/
section
variable {X : Cx} {st : Stmt} {rest : List Stmt} {t u : TS} {e : Expr} {te : TE} {pos : Pos}
def tNext : TS := fun D σ H => D.nx σ H
def tSeq (t u : TS) : TS := fun D σ H => t { D with nx := u D } σ H
theorem pss_nil : PSs X [] tNext := fun _ _ σ H _ I h => wpAny_execs_nil ⟨σ, H, I, h⟩
theorem pss_cons (h1 : PS X st t) (h2 : PSs X rest u) : PSs X (st :: rest) (tSeq t u) := by
  intro pins s σ H D I h
  refine wpAny_execs_cons (thn (h1 pins s σ H { D with nx := u D } I h) fun f s1 q => ?_)
  cases f with
  | next =>
    obtain ⟨σ', H', I', q⟩ := q
    exact h2 pins s1 σ' H' D I' q
  | ret v => exact q
  | brk => exact q
  | cont => exact q
theorem pss_one (h1 : PS X st t) : PSs X [st] t := by
  intro pins s σ H D I h
  refine wpAny_execs_cons (thn (h1 pins s σ H D I h) fun f s1 q => ?_)
  cases f with
  | next => exact wpAny_execs_nil q
  | ret v => exact q
  | brk => exact q
  | cont => exact q
def tBreak : TS := fun D σ H => D.bk σ H
def tCont : TS := fun D σ H => D.ct σ H
/-- in a def's body nothing is shown -/
theorem Inv.quiet {pins : List (Addr × Obj)} {σ : St} {H : Hp} {s : Shared} (I : Inv X pins σ H s) : interactive X.env = false := by simp [interactive, I.ok.kind]
/-- an expression whose value is dropped -/
def tDrop (te : TE) : TS := fun D σ H => te σ H fun _ H1 => D.nx σ H1
theorem ps_expr (he : PE X e te) (hs : swapsWith e none pos.line X.env = pure false := by rfl) : PS X (.Expr e pos) (tDrop te) := by
  intro pins s σ H D I h
  exact wpAny_Expr_any (thn (he pins s σ H _ I h) fun v s1 ⟨x, H1, I1, r1, q1⟩ => ⟨σ, H1, I1, q1⟩) I.quiet hs
def tRet (te : TE) : TS := fun D σ H => te σ H D.rt
theorem ps_ret (he : PE X e te) : PS X (.Return (some e) pos) (tRet te) := by
  intro pins s σ H D I h
  exact wpAny_Return_some (thn (he pins s σ H _ I h) fun v s1 ⟨x, H1, I1, r1, q1⟩ => ⟨x, σ, H1, I1, r1, q1⟩)
def tRetN : TS := fun D _ H => D.rt .non H
def tIfS (c : TT) (t u : TS) : TS := fun D σ H => c σ H fun b H1 => if b = true then t D σ H1 else u D σ H1
theorem ps_if {c : Expr} {a b : List Stmt} {tc : TT} (hc : PT X c tc) (ha : PSs X a t) (hb : PSs X b u) : PS X (.If c a b pos) (tIfS tc t u) := by
  intro pins s σ H D I h
  refine wpAny_If (thn (hc pins s σ H _ I h) fun d s1 ⟨H1, I1, q1⟩ => ?_)
  cases d with
  | true => exact ha pins s1 σ H1 D I1 q1
  | false => exact hb pins s1 σ H1 D I1 q1
/-- code that the proof never comes to -/
def tNever : TS := fun _ _ _ => False
end

/-! ### targets -/
abbrev TG := V → St → Hp → (St → Hp → Prop) → Prop
abbrev TGs := List V → St → Hp → (St → Hp → Prop) → Prop
def PG (X : Cx) (target : Expr) (t : TG) : Prop :=
  ∀ (pins : List (Addr × Obj)) (s : Shared) (σ : St) (H : Hp) (v : V) (u : Value) (Q : St → Hp → Prop), Inv X pins σ H s → RelV v u → t v σ H Q →
    wpAny (model X.prog X.w) X.A (assign target X.env u) (fun _ s' => ∃ σ' H', Inv X pins σ' H' s' ∧ Q σ' H') X.xe s
/-- several targets, one after another -/
def PGs (X : Cx) (ts : List Expr) (t : TGs) : Prop :=
  ∀ (pins : List (Addr × Obj)) (s : Shared) (σ : St) (H : Hp) (vs : List V) (us : List Value) (Q : St → Hp → Prop), Inv X pins σ H s → Vals vs us → t vs σ H Q →
    wpAny (model X.prog X.w) X.A (assignInOrder ((assignEach ts X.env).map (·.2)) us) (fun _ s' => ∃ σ' H', Inv X pins σ' H' s' ∧ Q σ' H') X.xe s
/-- o[i] = v, by values -/
abbrev TSet := V → V → V → Hp → (Hp → Prop) → Prop
def PSet (X : Cx) (t : TSet) : Prop :=
  ∀ (pins : List (Addr × Obj)) (s : Shared) (σ : St) (H : Hp) (o i v : V) (ov iv u : Value) (Q : Hp → Prop), Inv X pins σ H s → RelV o ov → RelV i iv → RelV v u → t o i v H Q →
    wpAny (model X.prog X.w) X.A (setItem ov iv u) (fun _ s' => ∃ H', Inv X pins σ H' s' ∧ Q H') X.xe s
/-- a op= b, by values -/
abbrev TIp := V → V → Hp → VK → Prop
def PIp (X : Cx) (op : Operator) (t : TIp) : Prop :=
  ∀ (pins : List (Addr × Obj)) (s : Shared) (σ : St) (H : Hp) (x y : V) (v u : Value) (Q : VK), Inv X pins σ H s → RelV x v → RelV y u → t x y H Q →
    wpAny (model X.prog X.w) X.A (inplaceOp op v u) (EP X pins σ Q) X.xe s
section
variable {X : Cx} {pos : Pos}
def gName (i : Nat) : TG := fun v σ H Q => Q (σ.set i (some v)) H
theorem pg_name {i : Nat} {x : Str} (hN : X.N.Nodup) (hi : X.N[i]? = some x) (hx : Loc X.env.scope x) (hf : X.fn x = true ∨ X.env.scope.names.lookup x = some .local := by first | exact .inl rfl | exact .inr rfl | assumption) : PG X (.Name x pos) (gName i) := by
  intro pins s σ H v u Q I r h
  exact wpAny_assign_Name (store_ok I hN hi hx r (fun s' I' => ⟨_, H, I', h⟩) hf)
def gNil : TGs := fun vs σ H Q => vs = [] ∧ Q σ H
def gCons (t : TG) (u : TGs) : TGs := fun vs σ H Q => ∃ v r, vs = v :: r ∧ t v σ H fun σ' H' => u r σ' H' Q
theorem pgs_nil : PGs X [] gNil := by
  intro pins s σ H vs us Q I r h
  obtain ⟨e, h⟩ := h
  subst e
  cases r
  exact assignInOrder_nil ⟨σ, H, I, h⟩
theorem pgs_cons {e : Expr} {es : List Expr} {t : TG} {u : TGs} (h1 : PG X e t) (h2 : PGs X es u)
    (hs : (assignEach (e :: es) X.env).map (·.2) = assign e X.env :: (assignEach es X.env).map (·.2) := by rfl) : PGs X (e :: es) (gCons t u) := by
  intro pins s σ H vs us Q I r h
  obtain ⟨v, vr, e1, h⟩ := h
  subst e1
  cases r with
  | cons r rr =>
    rw [hs]
    refine assignInOrder_cons (thn (h1 pins s σ H _ _ _ I r h) fun _ s1 ⟨σ1, H1, I1, q1⟩ => ?_)
    exact h2 pins s1 σ1 H1 _ _ Q I1 rr q1
/-- (a, b, ..) = a tuple of that length -/
def gTup (K : PySem.W.Frag) (n : Nat) (t : TGs) : TG := fun v σ H Q => ∃ a xs, v = .ref a ∧ SqT K H a xs ∧ xs.length = n ∧ t xs σ H Q
theorem pg_tup {es : List Expr} {k : Nat} {t : TGs} {n : Nat} (hc : X.calm = true) (h : PGs X es t)
    (hn : (assignEach es X.env).length = n := by rfl) (hst : (assignEach es X.env).findIdx? (·.1) = none := by rfl) : PG X (.Tuple es k pos) (gTup X.K n t) := by
  intro pins s σ H v u Q I r hw
  obtain ⟨a, xs, e1, hq, hl, hw⟩ := hw
  subst e1
  cases r
  obtain ⟨its, rv, ht, hz⟩ := I.tuple hq
  refine assign_Tuple_tuple (I.ok.hd hc) ht (by simp [hn, ← hl, rv.length]) hst fun h' hx => ?_
  have I1 : Inv X pins σ H { s with heap := h' } := I.kept (t' := s.toks) fun b o e => hx b o (Nat.ne_of_lt (Heap.lt_size e)) e
  exact h pins _ σ H xs _ Q I1 (by simpa using rv) hw
/-- o[i] = .. -/
def gSub (to ti : TE) (t : TSet) : TG := fun v σ H Q => to σ H fun o H1 => ti σ H1 fun i H2 => t o i v H2 fun H3 => Q σ H3
theorem pg_sub {o i : Expr} {to ti : TE} {t : TSet} (ho : PE X o to) (hi : PE X i ti) (hs : PSet X t)
    (ha : ∀ v, assign (.Subscript o i pos) X.env v = (do
      let ov ← holding [v] (eval o X.env)
      let iv ← holding [v, ov] (eval i X.env)
      standAt pos
      holding [v, ov, iv] (setItem ov iv v)
      release [v, ov, iv] []) := by intro _; rfl) : PG X (.Subscript o i pos) (gSub to ti t) := by
  intro pins s σ H v u Q I r h
  rw [ha]
  refine wpAny_bind (wpAny_holding (thn (ho pins s σ H _ I h) fun ov s1 ⟨x, H1, I1, r1, q1⟩ => ?_))
  refine wpAny_bind (wpAny_holding (thn (hi pins s1 σ H1 _ I1 q1) fun iv s2 ⟨y, H2, I2, r2, q2⟩ => ?_))
  refine wpAny_bind (wpAny_standAt (wpAny_bind (wpAny_holding (thn (hs pins s2 σ H2 x y v ov iv u _ I2 r1 r2 r q2) fun _ s3 ⟨H3, I3, q3⟩ => ?_))))
  exact wpAny_release ⟨σ, H3, I3, q3⟩
/-- target = value -/
def tAsg (te : TE) (g : TG) : TS := fun D σ H => te σ H fun x H1 => g x σ H1 D.nx
theorem ps_asg {tg e : Expr} {te : TE} {g : TG} (he : PE X e te) (hg : PG X tg g) (hs : swapsWithSole [tg] e pos.line X.env = pure false := by rfl) (hw : swappedStores [tg] e X.env = pure none := by rfl)
    (h1 : (assignEach [tg] X.env).map (·.2) = [assign tg X.env] := by rfl) : PS X (.Assign [tg] e pos) (tAsg te g) := by
  intro pins s σ H D I h
  refine wpAny_Assign_stores (thn (he pins s σ H _ I h) fun v s1 ⟨x, H1, I1, r1, q1⟩ => ?_) hs hw
  rw [h1]
  exact thn (hg pins s1 σ H1 x v _ I1 r1 q1) fun _ s2 q => q
/-- name = value -/
theorem ps_set {i : Nat} {x : Str} {e : Expr} {te : TE} {pos' : Pos} (hN : X.N.Nodup) (hi : X.N[i]? = some x) (hx : Loc X.env.scope x) (he : PE X e te) (hs : swapsWith e (some (.Name x pos')) pos.line X.env = pure false := by rfl) (hf : X.fn x = true ∨ X.env.scope.names.lookup x = some .local := by first | exact .inl rfl | exact .inr rfl | assumption) :
    PS X (.Assign [.Name x pos'] e pos) (tAsg te (gName i)) := by
  intro pins s σ H D I h
  refine wpAny_Assign_Name (thn (he pins s σ H _ I h) fun v s1 ⟨y, H1, I1, r1, q1⟩ => ?_) hs
  exact store_ok I1 hN hi hx r1 (fun s2 I2 => ⟨_, H1, I2, q1⟩) hf
/-- a, b = x, y with plain local names: stored from the right; the pair itself is not tracked (the opening rows as in PyProof/Rows/TupAssign.lean:23) -/
def tPar (i j : Nat) (ta : TA) : TS := fun D σ H => ta σ H fun vs H1 => ∃ v w, vs = [v, w] ∧ D.nx ((σ.set i (some v)).set j (some w)) H1
/-- name op= e -/
def tAug (i : Nat) (te : TE) (ti : TIp) : TS := fun D σ H => ∃ x, σ[i]? = some (some x) ∧ te σ H fun y H1 => ti x y H1 fun z H2 => D.nx (σ.set i (some z)) H2
/-- o[i] op= e -/
def tAugS (to ti te : TE) (tget : V → V → Hp → VK → Prop) (tip : TIp) (tset : TSet) : TS := fun D σ H => to σ H fun o H1 => ti σ H1 fun i H2 => tget o i H2 fun x H3 => te σ H3 fun y H4 => tip x y H4 fun z H5 => tset o i z H5 fun H6 => D.nx σ H6
/-- o[i], by values -/
def PGet (X : Cx) (t : V → V → Hp → VK → Prop) : Prop :=
  ∀ (pins : List (Addr × Obj)) (s : Shared) (σ : St) (H : Hp) (o i : V) (ov iv : Value) (Q : VK), Inv X pins σ H s → RelV o ov → RelV i iv → t o i H Q →
    wpAny (model X.prog X.w) X.A (getItem ov iv) (EP X pins σ Q) X.xe s
/-- ints -/
def ipI (f : Int → Int → Int) : TIp := fun x y H Q => ∃ i j, x = .int i ∧ y = .int j ∧ Q (.int (f i j)) H
end

/-! ### while -/
section
variable {X : Cx} {pos : Pos}
/-- the invariant W with its measure -/
def tWhile (c : TT) (tb : TS) : TS := fun D σ H => ∃ W : Nat → St → Hp → Prop, (∃ m, W m σ H) ∧ ∀ m σ H, W m σ H →
  c σ H fun b H1 => if b = true then ∃ N : St → Hp → Prop, (∀ σ' H', N σ' H' → ∃ m', m' < m ∧ W m' σ' H') ∧ tb { D with nx := N, ct := N, bk := D.nx } σ H1 else D.nx σ H1
end

/-! ### what a loop or a comprehension walks -/
/-- at turn i: it yields x (the heap may grow), or it stops -/
structure It where
  go : Nat → Hp → Prop
  yld : Nat → Hp → V → Hp → Prop
  stop : Nat → Hp → Prop
/-- the iterator's own objects may turn: they are not the frame's, not pinned, younger than the entry (or a comprehension's own) -/
def FpOk (X : Cx) (pins : List (Addr × Obj)) (H : Hp) (b : Addr) : Prop :=
  H b = none ∧ b ≠ X.env.locals ∧ b ∉ X.fs ∧ (b ∈ X.ex ∨ X.s_0.heap.objs.size ≤ b) ∧ (∀ x c, X.env.cells.lookup x = some c → c ≠ b) ∧ ∀ p ∈ X.pn ++ pins, p.1 ≠ b
theorem Inv.fpOk {X : Cx} {pins : List (Addr × Obj)} {σ : St} {H H' : Hp} {s : Shared} {b : Addr} (I : Inv X pins σ H s) (hb : s.heap.objs.size ≤ b) (hn : H' b = none) : FpOk X pins H' b := by
  refine ⟨hn, Nat.ne_of_gt (Nat.lt_of_lt_of_le I.lt hb), I.nofs hb, .inr (Nat.le_trans I.sz hb), fun x c e z => ?_, fun p hp z => ?_⟩
  · obtain ⟨v, q⟩ := I.cell x c e
    exact absurd (Nat.lt_of_lt_of_le q.lt (by rw [z]; exact hb)) (Nat.lt_irrefl _)
  · exact absurd (Nat.lt_of_lt_of_le (Heap.lt_size (I.pin p hp).1) (by rw [z]; exact hb)) (Nat.lt_irrefl _)
structure Turn (P : Program) (w : World) (K : PySem.W.Frag) (tg : Expr) (J : It) (fp : List Addr) (it : Addr) (tn : Nat → Heap → Prop) : Prop where
  mem : it ∈ fp
  obj : ∀ i h, tn i h → ∀ b ∈ fp, ∃ o, h.get? b = some o ∧ ∀ v, o.data ≠ .cell v
  keep : ∀ i h h', tn i h → (∀ b ∈ fp, ∀ o, h.get? b = some o → h'.get? b = some o) → tn i h'
  item : ∀ (X : Cx), X.prog = P → X.w = w → X.K = K → X.calm = true → ∀ (i : Nat) (pins : List (Addr × Obj)) (s : Shared) (σ : St) (H : Hp) (E : Value → Shared → Prop), Inv X pins σ H s → (∀ b ∈ fp, FpOk X pins H b) → tn i s.heap → J.go i H →
    wpAny (model P w) X.A (pyNext (.ref it)) (fun r s1 => ∃ u, r = some u ∧
      wpAny (model P w) X.A (letOwnedTupleGo tg (.ref it) u) (fun _ s2 => ∃ x H', Inv X pins σ H' s2 ∧ RelV x u ∧ J.yld i H x H' ∧ tn (i + 1) s2.heap ∧ ∀ b ∈ fp, H' b = none) E s1) E s
  done : ∀ (X : Cx), X.prog = P → X.w = w → X.K = K → X.calm = true → ∀ (i : Nat) (pins : List (Addr × Obj)) (s : Shared) (σ : St) (H : Hp) (E : Value → Shared → Prop), Inv X pins σ H s → (∀ b ∈ fp, FpOk X pins H b) → tn i s.heap → J.stop i H →
    wpAny (model P w) X.A (pyNext (.ref it)) (fun r s1 => r = none ∧ Inv X pins σ H s1) E s
  self : ∀ (A : Around) (i : Nat) (s : Shared) (Q : Value → Shared → Prop) (E : Value → Shared → Prop), tn i s.heap → Q (.ref it) s → wpAny (model P w) A (pyIter (.ref it)) Q E s
abbrev TI := St → Hp → (It → Hp → Prop) → Prop
/-- an iterator has come -/
def PIE (X : Cx) (pins : List (Addr × Obj)) (σ : St) (tg : Expr) (R : It → Hp → Prop) (itv : Value) (s2 : Shared) : Prop :=
  ∃ (it : Addr) (fp : List Addr) (tn : Nat → Heap → Prop) (J : It) (H' : Hp), itv = .ref it ∧ Inv X pins σ H' s2 ∧ Turn X.prog X.w X.K tg J fp it tn ∧ tn 0 s2.heap ∧ (∀ b ∈ fp, FpOk X pins H' b) ∧ R J H'
def PI (X : Cx) (tg iter : Expr) (wi : TI) : Prop :=
  ∀ (pins : List (Addr × Obj)) (s : Shared) (σ : St) (H : Hp) (R : It → Hp → Prop), Inv X pins σ H s → wi σ H R →
    wpAny (model X.prog X.w) X.A (eval iter X.env) (fun v s1 => wpAny (model X.prog X.w) X.A (pyIter v) (PIE X pins σ tg R) X.xe s1) X.xe s

/-- the step ahead of the store is nothing for an iterator that keeps no tuple -/
theorem go_of {M : Model} {A : Around} {E : Value → Shared → Prop} {s : Shared} {tg : Expr} {it : Addr} {u : Value} {o : Obj} {n : String} {vs : Array Value} {Q : Unit → Shared → Prop} (ho : s.heap.get? it = some o) (hc : o.cls = .type n) (hd : o.data = .fields vs)
    (hn : ["enumerate", "zip", "dict_itemiterator", "dict_reverseitemiterator", "odict_iterator", "itertools.zip_longest", "itertools.pairwise"].contains n = false) (hQ : Q () s) : wpAny M A (letOwnedTupleGo tg (.ref it) u) Q E s := by
  unfold letOwnedTupleGo
  cases tg <;> first
    | exact wpAny_pure hQ
    | (cases u <;> first
        | exact wpAny_pure hQ
        | (refine wpAny_bind (wpAny_load ho ?_)
           rw [hc, hd]
           show wpAny M A (if (["enumerate", "zip", "dict_itemiterator", "dict_reverseitemiterator", "odict_iterator", "itertools.zip_longest", "itertools.pairwise"].contains n && vs[0]? == some (rawInt _)) = true then _ else _) Q E s
           rw [if_neg (by intro h; rw [hn, Bool.false_and] at h; cases h)]
           exact wpAny_pure hQ))

/-- the list at a, as it stands at each turn (a loop may append to it) -/
def Itl (K : PySem.W.Frag) (a : Addr) : It :=
  ⟨fun i H => ∃ xs x, SqL K H a xs ∧ xs[i]? = some x, fun i H x H' => H' = H ∧ ∀ xs, SqL K H a xs → xs[i]? = some x, fun i H => ∃ xs, SqL K H a xs ∧ xs.length ≤ i⟩
def Itt (K : PySem.W.Frag) (a : Addr) : It :=
  ⟨fun i H => ∃ xs x, SqT K H a xs ∧ xs[i]? = some x, fun i H x H' => H' = H ∧ ∀ xs, SqT K H a xs → xs[i]? = some x, fun i H => ∃ xs, SqT K H a xs ∧ xs.length ≤ i⟩
/-- lo, lo + 1, .. (n of them) -/
def Itr (lo : Int) (n : Nat) : It := ⟨fun i _ => i < n, fun i H x H' => H' = H ∧ x = .int (lo + i), fun i _ => n ≤ i⟩
theorem turn_list {P : Program} {w : World} {K : PySem.W.Frag} {tg : Expr} (a it : Addr) : Turn P w K tg (Itl K a) [it] it (fun i h => h.IsListIter it a i) where
  mem := by simp
  obj := fun i h st b hb => by
    have e : b = it := by simpa using hb
    subst e
    obtain ⟨o, e, c, d⟩ := st
    exact ⟨o, e, fun v z => by rw [d] at z; cases z⟩
  keep := fun i h h' st k => st.at fun o e => k it (by simp) o e
  item := by
    intro X hP hw hK hc i pins s σ H E I hf st hg
    subst hP hw hK
    obtain ⟨xs, x, hq, hx⟩ := hg
    obtain ⟨its, rv, p, hz⟩ := I.list hq
    obtain ⟨u, hu, ru⟩ := rv.get hx
    obtain ⟨f0, f1, f2, f3, f4, f5⟩ := hf it (by simp)
    refine wpAny_pyNext_list_item st p.isList (x := u) (by simpa using hu) fun h' st' sb => ?_
    have I1 : Inv X pins σ H { s with heap := h' } := I.turned (t' := s.toks) (fun b o hb e => (sb.2 b hb).trans e) f0 f1 f3 f4 f5
    obtain ⟨o, e, c, d⟩ := id st'
    exact ⟨u, rfl, go_of (s := { s with heap := h' }) e c d (by decide) ⟨x, H, I1, ru, ⟨rfl, fun ys hy => by rw [I.list_inj hy hq]; exact hx⟩, st', fun b hb => (hf b hb).1⟩⟩
  done := by
    intro X hP hw hK hc i pins s σ H E I hf st hg
    subst hP hw hK
    obtain ⟨xs, hq, hx⟩ := hg
    obtain ⟨its, rv, p, hz⟩ := I.list hq
    obtain ⟨f0, f1, f2, f3, f4, f5⟩ := hf it (by simp)
    have hl := rv.length
    exact wpAny_pyNext_list_end (I.ok.hd hc) st p.isList (by simp; omega) fun h' eb => ⟨rfl, I.turned (t' := s.toks) (fun b o hb e => eb b o hb e) f0 f1 f3 f4 f5⟩
  self := fun _ _ _ _ _ st h => wpAny_pyIter_listiter st h
theorem turn_range {P : Program} {w : World} {K : PySem.W.Frag} {tg : Expr} (it : Addr) (lo : Int) (n : Nat) : Turn P w K tg (Itr lo n) [it] it (fun i h => IsRangeIter h it (lo + (i : Nat) * 1) ((n : Int) - (i : Nat)) 1) where
  mem := by simp
  obj := fun i h st b hb => by
    have e : b = it := by simpa using hb
    subst e
    exact ⟨_, st, fun v z => by
      have z' : Data.fields _ = Data.cell v := z
      cases z'⟩
  keep := fun i h h' st k => k it (by simp) _ st
  item := by
    intro X hP hw hK hc i pins s σ H E I hf st hg
    subst hP hw hK
    obtain ⟨f0, f1, f2, f3, f4, f5⟩ := hf it (by simp)
    have W := Walks.range (prog := X.prog) (w := X.w) (I.ok.hd hc) it lo 1 n
    refine W.item i s _ _ hg st fun v h' tk hv st' kk => ?_
    obtain ⟨t, rfl⟩ := hv
    have I1 : Inv X pins σ H { s with heap := h', toks := tk } := I.turned (fun b o hb e => kk b o (by simpa using hb) e) f0 f1 f3 f4 f5
    refine ⟨_, rfl, go_of (s := { s with heap := h', toks := tk }) (n := "range_iterator") st' rfl rfl (by decide) ⟨.int (lo + i), H, I1, ⟨t, ?_⟩, ⟨rfl, rfl⟩, st', fun b hb => (hf b hb).1⟩⟩
    rw [Int.mul_one]
  done := by
    intro X hP hw hK hc i pins s σ H E I hf st hg
    subst hP hw hK
    obtain ⟨f0, f1, f2, f3, f4, f5⟩ := hf it (by simp)
    exact wpAny_pyNext_range_end (I.ok.hd hc) st (by have : n ≤ i := hg; omega) fun h' eb => ⟨rfl, I.turned (t' := s.toks) (fun b o hb e => eb b o hb e) f0 f1 f3 f4 f5⟩
  self := fun _ _ _ _ _ st h => wpAny_pyIter_rangeiter st h
end L2

namespace L2
open PySem PySem.Spec PyProof.Rows
section
variable {X : Cx} {tg : Expr}
def iList (K : PySem.W.Frag) (tl : TE) : TI := fun σ H R => tl σ H fun x H1 => ∃ a, x = .ref a ∧ (∃ xs, SqL K H1 a xs) ∧ R (Itl K a) H1
def iTup (K : PySem.W.Frag) (tl : TE) : TI := fun σ H R => tl σ H fun x H1 => ∃ a, x = .ref a ∧ (∃ xs, SqT K H1 a xs) ∧ R (Itt K a) H1
theorem pi_list {l : Expr} {tl : TE} (hl : PE X l tl) : PI X tg l (iList X.K tl) := by
  intro pins s σ H R I h
  refine thn (hl pins s σ H _ I h) fun v s1 ⟨x, H1, I1, r1, q1⟩ => ?_
  obtain ⟨a, e, ⟨xs, hq⟩, q⟩ := q1
  subst e
  cases r1
  obtain ⟨its, rv, p, hz⟩ := I1.list hq
  refine wpAny_pyIter_list p.isList ?_
  refine ⟨s1.heap.objs.size, [s1.heap.objs.size], _, _, H1, rfl, I1.kept (t' := s1.toks) fun b o e => Heap.get?_push_of_some _ e, turn_list a _, ⟨_, Heap.get?_push_size _ rfl, rfl, rfl⟩, fun b hb => ?_, q⟩
  have e : b = s1.heap.objs.size := by simpa using hb
  subst e
  exact I1.fpOk (Nat.le_refl _) (I1.hok.fresh (Nat.le_refl _))
/-- a range object just made, walked -/
theorem range_it {pins : List (Addr × Obj)} {σ : St} {H : Hp} {s : Shared} {R : It → Hp → Prop} {E : Value → Shared → Prop} {lo hi : Int} {t u v : Tok} {tk : Nat} (I : Inv X pins σ H s) (h1 : -(2 ^ 62) ≤ lo) (h2 : lo < 2 ^ 62) (h3 : -(2 ^ 62) ≤ hi) (h4 : hi < 2 ^ 62)
    (q : R (Itr lo (hi - lo).toNat) H) : wpAny (model X.prog X.w) X.A (pyIter (.ref s.heap.objs.size)) (PIE X pins σ tg R) E { s with heap := s.heap.push { cls := .type "range", data := .fields #[.int lo t, .int hi u, .int 1 v] }, toks := tk } := by
  refine wpAny_pyIter_range (IsRange.new ..) (small_one h1 h2 h3 h4) ?_
  have I1 : Inv X pins σ H { s with heap := s.heap.push { cls := .type "range", data := .fields #[.int lo t, .int hi u, .int 1 v] }, toks := tk } := I.kept fun b o e => Heap.get?_push_of_some _ e
  refine ⟨(s.heap.push { cls := .type "range", data := .fields #[.int lo t, .int hi u, .int 1 v] }).objs.size, [(s.heap.push { cls := .type "range", data := .fields #[.int lo t, .int hi u, .int 1 v] }).objs.size], _, _, H, rfl,
    I1.kept (t' := tk) fun b o e => Heap.get?_push_of_some _ e, turn_range _ lo (hi - lo).toNat, ?_, fun b hb => ?_, q⟩
  · have e1 : lo + ((0 : Nat) : Int) * 1 = lo := by simp
    have e2 : (((hi - lo).toNat : Nat) : Int) - ((0 : Nat) : Int) = Builtin.Range.rangeSize lo hi 1 := by rw [rangeSize_one]; split <;> omega
    show IsRangeIter _ _ (lo + ((0 : Nat) : Int) * 1) ((((hi - lo).toNat : Nat) : Int) - ((0 : Nat) : Int)) 1
    rw [e1, e2]
    exact Heap.get?_push_size _ rfl
  · have e : b = (s.heap.push { cls := .type "range", data := .fields #[.int lo t, .int hi u, .int 1 v] }).objs.size := by simpa using hb
    subst e
    exact I1.fpOk (Nat.le_refl _) (I1.hok.fresh (Nat.le_refl _))
def iRng1 (ta : TA) : TI := fun σ H R => ta σ H fun vs H1 => ∃ j : Int, vs = [.int j] ∧ -(2 ^ 62) ≤ j ∧ j < 2 ^ 62 ∧ R (Itr 0 j.toNat) H1
def iRng2 (ta : TA) : TI := fun σ H R => ta σ H fun vs H1 => ∃ i j : Int, vs = [.int i, .int j] ∧ (-(2 ^ 62) ≤ i ∧ i < 2 ^ 62 ∧ -(2 ^ 62) ≤ j ∧ j < 2 ^ 62) ∧ R (Itr i (j - i).toNat) H1
theorem pi_range1 {a : Expr} {ta : TA} {p pos : Pos} (hg : Gl X "range") (hm : X.mg "range" = none) (ha : PA X [a] ta) (hs : starEach [a] X.env = [(false, eval a X.env)] := by rfl) : PI X tg (.Call (.Name "range" p) [a] [] pos) (iRng1 ta) := by
  intro pins s σ H R I h
  refine Call_ (ld_blt I hg hm boot_range (PyProof.Rows.callWith_type1 (thn (ha pos pins s σ H _ I h) fun us s1 ⟨vs, H1, I1, r1, q1⟩ => ?_) hs rfl))
  obtain ⟨j, e, q1, q2, q⟩ := q1
  subst e
  cases r1 with
  | cons r rr =>
    cases rr
    obtain ⟨t, rfl⟩ := r
    exact call_range_1 (range_it I1 (by omega) (by omega) q1 q2 (by simpa using q))
/-! ### for -/
/-- W: the invariant by the turn and a measure; N: what the body is to reach -/
def tFor (wi : TI) (g : TG) (tb : TS) : TS := fun D σ H => wi σ H fun J H1 => ∃ W : Nat → Nat → St → Hp → Prop, (∃ m, W 0 m σ H1) ∧ ∀ i m σ H, W i m σ H →
  (J.stop i H ∧ D.nx σ H) ∨ (J.go i H ∧ ∃ N : St → Hp → Prop, (∀ σ' H', N σ' H' → ∃ m', m' < m ∧ W (i + 1) m' σ' H') ∧ ∀ x H', J.yld i H x H' → g x σ H' fun σ2 H2 => tb { D with nx := N, ct := N, bk := D.nx } σ2 H2)
/-- the records at fp as they stand -/
def pinsAt (fp : List Addr) (h : Heap) : List (Addr × Obj) := fp.filterMap fun b => (h.get? b).map fun o => (b, o)
theorem mem_pinsAt {fp : List Addr} {h : Heap} {b : Addr} {o : Obj} (hb : b ∈ fp) (e : h.get? b = some o) : (b, o) ∈ pinsAt fp h := List.mem_filterMap.mpr ⟨b, hb, by rw [e]; rfl⟩
theorem of_pinsAt {fp : List Addr} {h : Heap} {p : Addr × Obj} (hp : p ∈ pinsAt fp h) : p.1 ∈ fp ∧ h.get? p.1 = some p.2 := by
  obtain ⟨b, hb, e⟩ := List.mem_filterMap.mp hp
  cases q : h.get? b with
  | none => rw [q] at e; cases e
  | some o =>
    rw [q] at e
    have e' : (b, o) = p := Option.some.inj e
    subst e'
    exact ⟨hb, q⟩
theorem Inv.pinned {pins : List (Addr × Obj)} {σ : St} {H : Hp} {s : Shared} {fp : List Addr} (I : Inv X pins σ H s) (hf : ∀ b ∈ fp, FpOk X pins H b) (ho : ∀ b ∈ fp, ∃ o, s.heap.get? b = some o ∧ ∀ v, o.data ≠ .cell v) : Inv X (pins ++ pinsAt fp s.heap) σ H s :=
  I.pins_of fun p hp => (List.mem_append.mp hp).elim (fun z => I.pin p (List.mem_append_right _ z)) fun z => by
    obtain ⟨hb, e⟩ := of_pinsAt z
    obtain ⟨f0, f1, f2, _⟩ := hf p.1 hb
    obtain ⟨o, e', d⟩ := ho p.1 hb
    rw [e] at e'; cases e'
    exact ⟨e, f0, f1, f2, d⟩
theorem Inv.unpinned {pins pl : List (Addr × Obj)} {σ : St} {H : Hp} {s : Shared} (I : Inv X (pins ++ pl) σ H s) : Inv X pins σ H s := I.pins_of fun p hp => I.pin p (List.mem_append_right _ (List.mem_append_left _ hp))
theorem ps_for {iter : Expr} {body : List Stmt} {wi : TI} {g : TG} {tb : TS} {pos : Pos} (hp : PassesOwn (model X.prog X.w) X.A X.env X.xe) (hc : X.calm = true) (hi : PI X tg iter wi) (hg : PG X tg g) (hb : PSs X body tb)
    (hs : ∀ x, foldedSetIterable iter X.env x = pure x := by intro _; rfl) : PS X (.For tg iter body [] pos) (tFor wi g tb) := by
  intro pins s σ H D I h
  refine wpAny_For (thn (hi pins s σ H _ I h) fun v s1 h1 => thn h1 fun itv s2 h2 => ?_) hs
  obtain ⟨it, fp, tn, J, H2, e, I2, T, st2, f2, W, ⟨m0, w0⟩, turn⟩ := h2
  subst e
  -- what stays true of the iterator's objects through the loop
  have stat : ∀ {H' : Hp}, (∀ b ∈ fp, H' b = none) → ∀ b ∈ fp, FpOk X pins H' b := fun hn b hb => ⟨hn b hb, (f2 b hb).2⟩
  refine codeAny_forLoop_any (fun n s' => ∃ i σ' H', Inv X pins σ' H' s' ∧ tn i s'.heap ∧ (∀ b ∈ fp, H' b = none) ∧ W i n σ' H') ?_ m0 ⟨0, σ, H2, I2, st2, fun b hb => (f2 b hb).1, w0⟩
  rintro n s3 ⟨i, σ3, H3, I3, st3, fr3, w3⟩
  rcases turn i n σ3 H3 w3 with ⟨stop, qn⟩ | ⟨go, N, hN, step⟩
  · refine wpAny_passesOwn hp (thn (T.done X rfl rfl rfl hc i pins s3 σ3 H3 X.xe I3 (stat fr3) st3 stop) fun r s4 ⟨hr, I4⟩ => ?_)
    subst hr
    exact wpAny_execs_nil ⟨σ3, H3, I4, qn⟩
  · refine wpAny_passesOwn hp (thn (T.item X rfl rfl rfl hc i pins s3 σ3 H3 X.xe I3 (stat fr3) st3 go) fun r s4 ⟨u, hr, h4⟩ => ?_)
    subst hr
    refine wpAny_passesOwn hp (thn h4 fun _ s5 ⟨x, H5, I5, r5, y5, st5, fr5⟩ => ?_)
    have I5' := I5.pinned (stat fr5) (T.obj _ _ st5)
    refine wpAny_passesOwn hp (thn (hg _ s5 σ3 H5 x u _ I5' r5 (step x H5 y5)) fun _ s6 ⟨σ6, H6, I6, q6⟩ => ?_)
    refine wpAny_passesOwn hp (thn (hb _ s6 σ6 H6 _ I6 q6) fun f s7 q7 => ?_)
    have again : ∀ {σ7 : St} {H7 : Hp}, Inv X (pins ++ pinsAt fp s5.heap) σ7 H7 s7 → N σ7 H7 → ∃ m, m < n ∧ ∃ i σ' H', Inv X pins σ' H' s7 ∧ tn i s7.heap ∧ (∀ b ∈ fp, H' b = none) ∧ W i m σ' H' := fun {σ7 H7} I7 n7 => by
      obtain ⟨m', hm, w7⟩ := hN σ7 H7 n7
      refine ⟨m', hm, i + 1, σ7, H7, I7.unpinned, T.keep _ _ _ st5 fun b hb o e => (I7.pin (b, o) (List.mem_append_right _ (List.mem_append_right _ (mem_pinsAt hb e)))).1, fun b hb => ?_, w7⟩
      obtain ⟨o, e, d⟩ := T.obj _ _ st5 b hb
      exact (I7.pin (b, o) (List.mem_append_right _ (List.mem_append_right _ (mem_pinsAt hb e)))).2.1
    cases f with
    | next => obtain ⟨σ7, H7, I7, n7⟩ := q7; exact again I7 n7
    | cont => obtain ⟨σ7, H7, I7, n7⟩ := q7; exact again I7 n7
    | brk => obtain ⟨σ7, H7, I7, q7⟩ := q7; exact ⟨σ7, H7, I7.unpinned, q7⟩
    | ret v => obtain ⟨x7, σ7, H7, I7, r7, q7⟩ := q7; exact ⟨x7, σ7, H7, I7.unpinned, r7, q7⟩
end

/-! ### the forms one uses -/
/-- over a list that the body leaves as it is -/
theorem for_list {K : PySem.W.Frag} {a : Addr} {xs : List V} {g : TG} {tb : TS} {D : Ends} {σ : St} {H : Hp} (Pv : Nat → St → Hp → Prop) (h0 : Pv 0 σ H) (hl : ∀ i σ H, i ≤ xs.length → Pv i σ H → SqL K H a xs)
    (hs : ∀ i x σ H, xs[i]? = some x → Pv i σ H → g x σ H fun σ2 H2 => tb { D with nx := Pv (i + 1), ct := Pv (i + 1), bk := D.nx } σ2 H2) (hd : ∀ σ H, Pv xs.length σ H → D.nx σ H) :
    ∃ W : Nat → Nat → St → Hp → Prop, (∃ m, W 0 m σ H) ∧ ∀ i m σ H, W i m σ H →
      ((Itl K a).stop i H ∧ D.nx σ H) ∨ ((Itl K a).go i H ∧ ∃ N : St → Hp → Prop, (∀ σ' H', N σ' H' → ∃ m', m' < m ∧ W (i + 1) m' σ' H') ∧ ∀ x H', (Itl K a).yld i H x H' → g x σ H' fun σ2 H2 => tb { D with nx := N, ct := N, bk := D.nx } σ2 H2) := by
  refine ⟨fun i m σ H => m = xs.length - i ∧ i ≤ xs.length ∧ Pv i σ H, ⟨xs.length, by simp, Nat.zero_le _, h0⟩, ?_⟩
  rintro i m σ H ⟨rfl, hi, p⟩
  have q := hl i σ H hi p
  by_cases hlt : i < xs.length
  · refine .inr ⟨⟨xs, xs[i], q, by simp [hlt]⟩, Pv (i + 1), fun σ' H' p' => ⟨xs.length - (i + 1), by omega, rfl, hlt, p'⟩, fun x H' y => ?_⟩
    obtain ⟨e, y⟩ := y
    subst e
    exact hs i x σ _ (y xs q) p
  · have e : i = xs.length := by omega
    subst e
    exact .inl ⟨⟨xs, q, Nat.le_refl _⟩, hd σ H p⟩
theorem for_range {lo : Int} {n : Nat} {g : TG} {tb : TS} {D : Ends} {σ : St} {H : Hp} (Pv : Nat → St → Hp → Prop) (h0 : Pv 0 σ H)
    (hs : ∀ i σ H, i < n → Pv i σ H → g (.int (lo + i)) σ H fun σ2 H2 => tb { D with nx := Pv (i + 1), ct := Pv (i + 1), bk := D.nx } σ2 H2) (hd : ∀ σ H, Pv n σ H → D.nx σ H) :
    ∃ W : Nat → Nat → St → Hp → Prop, (∃ m, W 0 m σ H) ∧ ∀ i m σ H, W i m σ H →
      ((Itr lo n).stop i H ∧ D.nx σ H) ∨ ((Itr lo n).go i H ∧ ∃ N : St → Hp → Prop, (∀ σ' H', N σ' H' → ∃ m', m' < m ∧ W (i + 1) m' σ' H') ∧ ∀ x H', (Itr lo n).yld i H x H' → g x σ H' fun σ2 H2 => tb { D with nx := N, ct := N, bk := D.nx } σ2 H2) := by
  refine ⟨fun i m σ H => m = n - i ∧ i ≤ n ∧ Pv i σ H, ⟨n, by simp, Nat.zero_le _, h0⟩, ?_⟩
  rintro i m σ H ⟨rfl, hi, p⟩
  by_cases hlt : i < n
  · refine .inr ⟨hlt, Pv (i + 1), fun σ' H' p' => ⟨n - (i + 1), by omega, rfl, hlt, p'⟩, fun x H' y => ?_⟩
    obtain ⟨e, y⟩ := y
    subst e y
    exact hs i σ _ hlt p
  · have e : i = n := by omega
    subst e
    exact .inl ⟨Nat.le_refl _, hd σ H p⟩
end L2

namespace L2
open PySem PySem.Spec PyProof.Rows

abbrev R2 := V → V → Hp → VK → Prop
/-- a two-place operation on values: f is binaryOp op, inplaceOp op or compareOp op -/
def OpR (X : Cx) (f : Value → Value → Sem Value) (r : R2) : Prop :=
  ∀ (pins : List (Addr × Obj)) (s : Shared) (σ : St) (H : Hp) (x y : V) (v u : Value) (Q : VK), Inv X pins σ H s → RelV x v → RelV y u → r x y H Q →
    wpAny (model X.prog X.w) X.A (f v u) (EP X pins σ Q) X.xe s
/-- a one-place operation -/
def UnR (X : Cx) (f : Value → Sem Value) (r : V → Hp → VK → Prop) : Prop :=
  ∀ (pins : List (Addr × Obj)) (s : Shared) (σ : St) (H : Hp) (x : V) (v : Value) (Q : VK), Inv X pins σ H s → RelV x v → r x H Q →
    wpAny (model X.prog X.w) X.A (f v) (EP X pins σ Q) X.xe s
/-- a call of a value that is known (a builtin, a type) with values -/
def CallR (X : Cx) (f : Value) (r : List V → Hp → VK → Prop) : Prop :=
  ∀ (pins : List (Addr × Obj)) (s : Shared) (σ : St) (H : Hp) (xs : List V) (us : List Value) (Q : VK), Inv X pins σ H s → Vals xs us → r xs H Q →
    wpAny (model X.prog X.w) X.A (call f us) (EP X pins σ Q) X.xe s
/-- a value's truth -/
def TruR (X : Cx) (r : V → Hp → (Bool → Hp → Prop) → Prop) : Prop :=
  ∀ (pins : List (Addr × Obj)) (s : Shared) (σ : St) (H : Hp) (x : V) (v : Value) (Q : Bool → Hp → Prop), Inv X pins σ H s → RelV x v → r x H Q →
    wpAny (model X.prog X.w) X.A (truthy v) (TP X pins σ Q) X.xe s

def tOp (r : R2) (ta tb : TE) : TE := fun σ H Q => ta σ H fun x H1 => tb σ H1 fun y H2 => r x y H2 Q
def tUn (r : V → Hp → VK → Prop) (ta : TE) : TE := fun σ H Q => ta σ H fun x H1 => r x H1 Q
/-- ints in, under C, and a value out -/
def rI (C : Int → Int → Prop) (g : Int → Int → V) : R2 := fun x y H Q => ∃ i j, x = .int i ∧ y = .int j ∧ C i j ∧ Q (g i j) H
def rI0 (g : Int → Int → V) : R2 := fun x y H Q => ∃ i j, x = .int i ∧ y = .int j ∧ Q (g i j) H
def rU (g : Int → V) : V → Hp → VK → Prop := fun x H Q => ∃ i, x = .int i ∧ Q (g i) H

section
variable {X : Cx} {a b c : Expr} {ta tb tc : TE} {pos : Pos}

theorem binT (ha : PE X a ta) (hb : PE X b tb) {pins : List (Addr × Obj)} {s : Shared} {σ : St} {H : Hp} {R : V → V → Hp → Prop} (I : Inv X pins σ H s)
    (h : ta σ H fun x H1 => tb σ H1 fun y H2 => R x y H2) {Q : Value → Shared → Prop} {f : Value → Value → Sem Value}
    (hf : ∀ v u s2 x y H2, Inv X pins σ H2 s2 → RelV x v → RelV y u → R x y H2 → wpAny (model X.prog X.w) X.A (f v u) Q X.xe s2) :
    wpAny (model X.prog X.w) X.A (eval a X.env) (fun v s₁ => wpAny (model X.prog X.w) X.A (eval b X.env) (fun u s₂ => wpAny (model X.prog X.w) X.A (f v u) Q X.xe s₂) X.xe s₁) X.xe s := by
  refine thn (ha pins s σ H _ I h) fun v s1 ⟨x, H1, I1, r1, q1⟩ => ?_
  refine thn (hb pins s1 σ H1 _ I1 q1) fun u s2 ⟨y, H2, I2, r2, q2⟩ => ?_
  exact hf v u s2 x y H2 I2 r1 r2 q2

theorem pe_op {op : Operator} {r : R2} (ho : OpR X (binaryOp op) r) (ha : PE X a ta) (hb : PE X b tb) : PE X (.BinOp a op b pos) (tOp r ta tb) := by
  intro pins s σ H Q I h
  exact wpAny_BinOp (binT ha hb I h fun v u s2 x y H2 I2 rx ry q => ho pins s2 σ H2 x y v u Q I2 rx ry q)
theorem pe_un {op : UnaryOp} {r : V → Hp → VK → Prop} (ho : UnR X (unaryOp op) r) (ha : PE X a ta) : PE X (.UnaryOp op a pos) (tUn r ta) := by
  intro pins s σ H Q I h
  exact UnaryOp_ (thn (ha pins s σ H _ I h) fun v s1 ⟨x, H1, I1, r1, q1⟩ => ho pins s1 σ H1 x v Q I1 r1 q1)
/-! ### ints -/
theorem opI {f : Value → Value → Sem Value} {C : Int → Int → Prop} {g : Int → Int → Int}
    (rule : ∀ (i j : Int) (t u : Tok) (s : Shared) (Q : Value → Shared → Prop) (E : Value → Shared → Prop), C i j → Q (.int (g i j) s.toks) { s with toks := s.toks + 1 } → wpAny (model X.prog X.w) X.A (f (.int i t) (.int j u)) Q E s) :
    OpR X f (rI C fun i j => .int (g i j)) := by
  intro pins s σ H x y v u Q I rx ry h
  obtain ⟨i, j, rfl, rfl, hc, q⟩ := h
  obtain ⟨t, rfl⟩ := rx
  obtain ⟨t', rfl⟩ := ry
  exact rule i j t t' s _ _ hc ⟨.int (g i j), H, I.tok _, ⟨_, rfl⟩, q⟩
theorem opI0 {f : Value → Value → Sem Value} {g : Int → Int → Int}
    (rule : ∀ (i j : Int) (t u : Tok) (s : Shared) (Q : Value → Shared → Prop) (E : Value → Shared → Prop), Q (.int (g i j) s.toks) { s with toks := s.toks + 1 } → wpAny (model X.prog X.w) X.A (f (.int i t) (.int j u)) Q E s) :
    OpR X f (rI0 fun i j => .int (g i j)) := by
  intro pins s σ H x y v u Q I rx ry h
  obtain ⟨i, j, rfl, rfl, q⟩ := h
  obtain ⟨t, rfl⟩ := rx
  obtain ⟨t', rfl⟩ := ry
  exact rule i j t t' s _ _ ⟨.int (g i j), H, I.tok _, ⟨_, rfl⟩, q⟩
theorem opB0 {f : Value → Value → Sem Value} {g : Int → Int → Bool}
    (rule : ∀ (i j : Int) (t u : Tok) (s : Shared) (Q : Value → Shared → Prop) (E : Value → Shared → Prop), Q (.bool (g i j)) s → wpAny (model X.prog X.w) X.A (f (.int i t) (.int j u)) Q E s) :
    OpR X f (rI0 fun i j => .bl (g i j)) := by
  intro pins s σ H x y v u Q I rx ry h
  obtain ⟨i, j, rfl, rfl, q⟩ := h
  obtain ⟨t, rfl⟩ := rx
  obtain ⟨t', rfl⟩ := ry
  exact rule i j t t' s _ _ ⟨.bl (g i j), H, I, rfl, q⟩

def CDiv (i j : Int) : Prop := 0 < j ∧ j < 1073741824
def CDivN (i j : Int) : Prop := j ≠ 0 ∧ j.natAbs < 1073741824
def CPow (i j : Int) : Prop := 0 ≤ j ∧ j ≤ 1000000 ∧ i.natAbs < 2 ^ 64
def CMul (i j : Int) : Prop := (-(2 ^ 64) < i ∧ i < 2 ^ 64) ∨ (-(2 ^ 64) < j ∧ j < 2 ^ 64)
theorem CMul.ok {i j : Int} (h : CMul i j) : IntMulOk i j := by
  rcases h with ⟨h1, h2⟩ | ⟨h1, h2⟩
  · exact .of_left (intBits_le_64 h1 h2)
  · exact .of_right (intBits_le_64 h1 h2)
theorem op_add : OpR X (binaryOp .Add) (rI0 fun i j => .int (i + j)) := opI0 fun _ _ _ _ _ _ _ q => add_int q
theorem op_sub : OpR X (binaryOp .Sub) (rI0 fun i j => .int (i - j)) := opI0 fun _ _ _ _ _ _ _ q => sub_int q
theorem op_mul : OpR X (binaryOp .Mult) (rI CMul fun i j => .int (i * j)) := opI fun _ _ _ _ _ _ _ hc q => mul_int q hc.ok
/-- // by a positive divisor -/
theorem op_fdiv : OpR X (binaryOp .FloorDiv) (rI CDiv fun i j => .int (i / j)) := opI fun i j _ _ _ _ _ hc q => by
  have h1 : (0 : Int) < j := hc.1
  have h2 : j < 1073741824 := hc.2
  exact floordiv_int (by omega) (by rw [Int.fdiv_eq_ediv_of_nonneg i (by omega)]; exact q) (.inl (PyProof.noPylong_small (by omega)))
/-- % by a positive divisor of any size -/
theorem op_mod : OpR X (binaryOp .Mod) (rI (fun _ j => 0 < j) fun i j => .int (i % j)) := opI fun i j _ _ _ _ _ hc q => by
  have h1 : (0 : Int) < j := hc
  exact mod_int' (by omega) (by rw [Int.fmod_eq_emod_of_nonneg i (by omega)]; exact q)
theorem op_pow : OpR X (binaryOp .Pow) (rI CPow fun i j => .int (i ^ j.toNat)) := opI fun _ _ _ _ _ _ _ hc q => pow_int_small hc.1 hc.2.1 hc.2.2 q
theorem unI {f : Value → Sem Value} {g : Int → Int}
    (rule : ∀ (i : Int) (t : Tok) (s : Shared) (Q : Value → Shared → Prop) (E : Value → Shared → Prop), Q (.int (g i) s.toks) { s with toks := s.toks + 1 } → wpAny (model X.prog X.w) X.A (f (.int i t)) Q E s) :
    UnR X f (rU fun i => .int (g i)) := by
  intro pins s σ H x v Q I rx h
  obtain ⟨i, rfl, q⟩ := h
  obtain ⟨t, rfl⟩ := rx
  exact rule i t s _ _ ⟨.int (g i), H, I.tok _, ⟨_, rfl⟩, q⟩
theorem un_neg : UnR X (unaryOp .USub) (rU fun i => .int (-i)) := unI fun _ _ _ _ _ q => neg_int q
/-! ### bools among ints: n += (a < b) -/
end

/-! ### comparisons -/
/-- the scalars that == tells apart as data does -/
def scal : V → V → Bool
  | .non, .non => true | .non, .int _ => true | .int _, .non => true | .non, .bl _ => true | .bl _, .non => true | .non, .str _ => true | .str _, .non => true
  | .int _, .int _ => true | .bl _, .bl _ => true | .str _, .str _ => true | .byt _, .byt _ => true
  | .int _, .str _ => true | .str _, .int _ => true | .bl _, .str _ => true | .str _, .bl _ => true
  | _, _ => false
def rEq : R2 := fun x y H Q => scal x y = true ∧ Q (.bl (decide (x = y))) H
def rNe : R2 := fun x y H Q => scal x y = true ∧ Q (.bl (!decide (x = y))) H

theorem dec_int {i j : Int} : decide (V.int i = V.int j) = (i == j) := by
  rw [Bool.eq_iff_iff]
  simp
theorem dec_bl {i j : Bool} : decide (V.bl i = V.bl j) = (i == j) := by
  rw [Bool.eq_iff_iff]
  simp
theorem dec_str {i j : Str} : decide (V.str i = V.str j) = (i == j) := by
  rw [Bool.eq_iff_iff]
  simp
theorem dec_byt {i j : Array UInt8} : decide (V.byt i = V.byt j) = (i.toList == j.toList) := by
  rw [Bool.eq_iff_iff]
  cases i
  cases j
  simp

section
variable {X : Cx} {a b c : Expr} {ta tb tc : TE} {pos : Pos}
theorem fin_bl {pins : List (Addr × Obj)} {σ : St} {H : Hp} {s : Shared} {Q : VK} {k k' : Bool} (I : Inv X pins σ H s) (q : Q (.bl k) H) (e : k = k') : EP X pins σ Q (.bool k') s := by
  subst e
  exact ⟨.bl k, H, I, rfl, q⟩
theorem op_eq : OpR X (compareOp .Eq) rEq := by
  intro pins s σ H x y v u Q I rx ry h
  obtain ⟨hs, q⟩ := h
  cases x with
  | non =>
    cases rx
    cases y with
    | non => cases ry; exact PySem.EqNone.eq_none_none (fin_bl I q (by simp))
    | bl j => cases ry; exact PySem.EqNone.eq_none_bool (fin_bl I q (by simp))
    | int j => obtain ⟨t', rfl⟩ := ry; exact PySem.EqNone.eq_none_int (fin_bl I q (by simp))
    | str j => obtain ⟨t', rfl⟩ := ry; exact PySem.EqNone.eq_none_str (fin_bl I q (by simp))
    | _ => exact absurd (show false = true from hs) Bool.false_ne_true
  | bl i =>
    cases rx
    cases y with
    | non => cases ry; exact PySem.EqNone.eq_bool_none (fin_bl I q (by simp))
    | bl j => cases ry; exact eq_bool (fin_bl I q dec_bl)
    | str j => obtain ⟨t', rfl⟩ := ry; exact PySem.EqMixed.eq_bool_str (fin_bl I q (by simp))
    | _ => exact absurd (show false = true from hs) Bool.false_ne_true
  | int i =>
    obtain ⟨t, rfl⟩ := rx
    cases y with
    | non => cases ry; exact PySem.EqNone.eq_int_none (fin_bl I q (by simp))
    | int j => obtain ⟨t', rfl⟩ := ry; exact eq_int (fin_bl I q dec_int)
    | str j => obtain ⟨t', rfl⟩ := ry; exact PySem.EqMixed.eq_int_str (fin_bl I q (by simp))
    | _ => exact absurd (show false = true from hs) Bool.false_ne_true
  | str i =>
    obtain ⟨t, rfl⟩ := rx
    cases y with
    | non => cases ry; exact PySem.EqNone.eq_str_none (fin_bl I q (by simp))
    | bl j => cases ry; exact PySem.EqMixed.eq_str_bool (fin_bl I q (by simp))
    | int j => obtain ⟨t', rfl⟩ := ry; exact PySem.EqMixed.eq_str_int (fin_bl I q (by simp))
    | str j => obtain ⟨t', rfl⟩ := ry; exact eq_str (fin_bl I q dec_str)
    | _ => exact absurd (show false = true from hs) Bool.false_ne_true
  | byt i =>
    obtain ⟨t, rfl⟩ := rx
    cases y with
    | byt j => obtain ⟨t', rfl⟩ := ry; exact PySem.W.eq_bytes (fin_bl I q dec_byt)
    | _ => exact absurd (show false = true from hs) Bool.false_ne_true
  | _ => cases y <;> exact absurd (show false = true from hs) Bool.false_ne_true
theorem op_ne : OpR X (compareOp .NotEq) rNe := by
  intro pins s σ H x y v u Q I rx ry h
  obtain ⟨hs, q⟩ := h
  cases x with
  | non =>
    cases rx
    cases y with
    | non => cases ry; exact PySem.EqNone.ne_none_none (fin_bl I q (by simp))
    | bl j => cases ry; exact PySem.EqNone.ne_none_bool (fin_bl I q (by simp))
    | int j => obtain ⟨t', rfl⟩ := ry; exact PySem.EqNone.ne_none_int (fin_bl I q (by simp))
    | str j => obtain ⟨t', rfl⟩ := ry; exact PySem.EqNone.ne_none_str (fin_bl I q (by simp))
    | _ => exact absurd (show false = true from hs) Bool.false_ne_true
  | bl i =>
    cases rx
    cases y with
    | non => cases ry; exact PySem.EqNone.ne_bool_none (fin_bl I q (by simp))
    | bl j => cases ry; exact ne_bool (fin_bl I q (congrArg not dec_bl))
    | str j => obtain ⟨t', rfl⟩ := ry; exact PySem.EqMixed.ne_bool_str (fin_bl I q (by simp))
    | _ => exact absurd (show false = true from hs) Bool.false_ne_true
  | int i =>
    obtain ⟨t, rfl⟩ := rx
    cases y with
    | non => cases ry; exact PySem.EqNone.ne_int_none (fin_bl I q (by simp))
    | int j => obtain ⟨t', rfl⟩ := ry; exact ne_int (fin_bl I q (congrArg not dec_int))
    | str j => obtain ⟨t', rfl⟩ := ry; exact PySem.EqMixed.ne_int_str (fin_bl I q (by simp))
    | _ => exact absurd (show false = true from hs) Bool.false_ne_true
  | str i =>
    obtain ⟨t, rfl⟩ := rx
    cases y with
    | non => cases ry; exact PySem.EqNone.ne_str_none (fin_bl I q (by simp))
    | bl j => cases ry; exact PySem.EqMixed.ne_str_bool (fin_bl I q (by simp))
    | int j => obtain ⟨t', rfl⟩ := ry; exact PySem.EqMixed.ne_str_int (fin_bl I q (by simp))
    | str j => obtain ⟨t', rfl⟩ := ry; exact ne_str (fin_bl I q (congrArg not dec_str))
    | _ => exact absurd (show false = true from hs) Bool.false_ne_true
  | byt i =>
    obtain ⟨t, rfl⟩ := rx
    cases y with
    | byt j => obtain ⟨t', rfl⟩ := ry; exact PySem.W.ne_bytes (fin_bl I q (congrArg not dec_byt))
    | _ => exact absurd (show false = true from hs) Bool.false_ne_true
  | _ => cases y <;> exact absurd (show false = true from hs) Bool.false_ne_true

theorem op_lt : OpR X (compareOp .Lt) (rI0 fun i j => .bl (decide (i < j))) := opB0 fun _ _ _ _ _ _ _ q => lt_int q
theorem op_le : OpR X (compareOp .LtE) (rI0 fun i j => .bl (decide (i ≤ j))) := opB0 fun _ _ _ _ _ _ _ q => le_int q
theorem op_gt : OpR X (compareOp .Gt) (rI0 fun i j => .bl (decide (j < i))) := opB0 fun _ _ _ _ _ _ _ q => gt_int q
theorem op_notN : OpR X (compareOp .IsNot) (fun x y H Q => y = .non ∧ Q (.bl (!decide (x = .non))) H) := by
  intro pins s σ H x y v u Q I rx ry h
  obtain ⟨rfl, q⟩ := h
  cases ry
  refine isnot_none_gen (fin_bl I q ?_)
  cases x <;> first
    | (cases rx; rfl)
    | (obtain ⟨t, rfl⟩ := rx; rfl)

/-- is, is not of two objects that are tracked lists or instances -/
def isObj : HO → Bool
  | .lst _ => true
  | .ins _ _ _ => true
  | _ => false
theorem nomark (b : Expr) {op : CmpOp} (h : op ≠ .In := by decide) (h2 : op ≠ .NotIn := by decide) : behindInMarks op b = false := by
  have e1 : (op == CmpOp.In) = false := by cases op <;> first | rfl | exact absurd rfl h
  have e2 : (op == CmpOp.NotIn) = false := by cases op <;> first | rfl | exact absurd rfl h2
  cases b <;> simp [behindInMarks, e1, e2]
/-- a comparison as a value; hm: nomark b, or (for in, not in) by with_unfolding_all rfl -/
theorem pe_cmpR {op : CmpOp} {r : R2} (ho : OpR X (compareOp op) r) (ha : PE X a ta) (hb : PE X b tb) (hm : behindInMarks op b = false) : PE X (.Compare a [op] [b] pos) (tOp r ta tb) := by
  intro pins s σ H Q I h
  exact wpAny_Compare1 (binT ha hb I h fun v u s2 x y H2 I2 rx ry q => ho pins s2 σ H2 x y v u Q I2 rx ry q) hm
/-- a reading of a value as a test -/
def tTest (t : TE) : TT := fun σ H Q => t σ H fun x H' => ∃ k, x = .bl k ∧ Q k H'
theorem pt_cmpR {op : CmpOp} {r : R2} (ho : OpR X (compareOp op) r) (ha : PE X a ta) (hb : PE X b tb) (hm : behindInMarks op b = false) : PT X (.Compare a [op] [b] pos) (tTest (tOp r ta tb)) := by
  intro pins s σ H Q I h
  refine wpAny_isTrue_Compare1 (thn (ha pins s σ H _ I h) fun v s1 ⟨x, H1, I1, r1, q1⟩ => thn (hb pins s1 σ H1 _ I1 q1) fun u s2 ⟨y, H2, I2, r2, q2⟩ =>
    thn (ho pins s2 σ H2 x y v u _ I2 r1 r2 q2) fun c s3 ⟨z, H3, I3, r3, k, e, q3⟩ => ?_) hm
  subst e
  cases r3
  exact wpAny_truthy_bool ⟨H3, I3, q3⟩
/-- a op1 b op2 c -/
def tChain (r r' : R2) (ta tb tc : TE) : TE := fun σ H Q => ta σ H fun x H1 => tb σ H1 fun y H2 => r x y H2 fun z H3 => ∃ k, z = .bl k ∧
  (if k = true then tc σ H3 fun w' H4 => r' y w' H4 Q else Q (.bl false) H3)
theorem pt_chain {op op' : CmpOp} {r r' : R2} (ho : OpR X (compareOp op) r) (ho' : OpR X (compareOp op') r') (ha : PE X a ta) (hb : PE X b tb) (hc : PE X c tc)
    (hm : lastMarks [op, op'] [b, c] = false := by with_unfolding_all rfl) : PT X (.Compare a [op, op'] [b, c] pos) (tTest (tChain r r' ta tb tc)) := by
  intro pins s σ H Q I h
  refine isTrue_chain (thn (ha pins s σ H _ I h) fun v s1 ⟨x, H1, I1, r1, q1⟩ => test_link (thn (hb pins s1 σ H1 _ I1 q1) fun u s2 ⟨y, H2, I2, r2, q2⟩ =>
    thn (ho pins s2 σ H2 x y v u _ I2 r1 r2 q2) fun d s3 ⟨z, H3, I3, r3, k, e, q3⟩ => ?_)) hm
  subst e
  cases r3
  refine wpAny_truthy_bool ?_
  cases k with
  | false =>
    obtain ⟨k', e', q'⟩ := q3
    cases e'
    exact ite_ff ⟨H3, I3, q'⟩
  | true =>
    refine ite_tt (test_last (thn (hc pins s3 σ H3 _ I3 q3) fun w' s4 ⟨z', H4, I4, r4, q4⟩ => thn (ho' pins s4 σ H4 y z' u w' _ I4 r2 r4 q4) fun d' s5 ⟨z2, H5, I5, r5, k2, e2, q5⟩ => ?_))
    subst e2
    cases r5
    exact wpAny_truthy_bool ⟨H5, I5, q5⟩

/-! ### truth -/
/-- a value's truth by the abstract heap -/
def TruV (K : PySem.W.Frag) (x : V) (H : Hp) (k : Bool) : Prop :=
  match x with
  | .non => k = false
  | .bl b => k = b
  | .int i => k = (i != 0)
  | .str y => y.length ≤ sizeLine ∧ k = ((y.length : Int) != 0)
  | .byt y => y.size ≤ sizeLine ∧ k = ((y.size : Int) != 0)
  | .ref p => (∃ xs, SqL K H p xs ∧ k = !xs.isEmpty) ∨ (∃ xs, SqT K H p xs ∧ k = !xs.isEmpty) ∨ ∃ kvs, H p = some (.dK kvs) ∧ k = !kvs.isEmpty
  | _ => False
theorem line63 : (sizeLine : Nat) < 2 ^ 63 := by rw [sizeLine_eq]; decide
/-! ### strs and bytes -/
theorem op_add_str : OpR X (binaryOp .Add) (fun x y H Q => ∃ i j, x = .str i ∧ y = .str j ∧ i.length + j.length ≤ sizeLine ∧ Q (.str (i ++ j)) H) := by
  intro pins s σ H x y v u Q I rx ry h
  obtain ⟨i, j, rfl, rfl, hz, q⟩ := h
  obtain ⟨t, rfl⟩ := rx
  obtain ⟨t', rfl⟩ := ry
  exact add_str (fun t' tk => ⟨.str (i ++ j), H, I.tok _, ⟨_, rfl⟩, q⟩) hz
def PlainIxT (b : Expr) : Prop := ∀ o i, subscripted b false o i = operate [o, i] (getItem o i)
/-! ### scalar builtins, by CallR -/
theorem vals1 {x : V} {us : List Value} (r : Vals [x] us) : ∃ u, us = [u] ∧ RelV x u := by
  cases r with
  | cons r1 r2 => cases r2; exact ⟨_, rfl, r1⟩
theorem vals2 {x y : V} {us : List Value} (r : Vals [x, y] us) : ∃ u w', us = [u, w'] ∧ RelV x u ∧ RelV y w' := by
  cases r with
  | cons r1 r2 =>
    cases r2 with
    | cons r3 r4 => cases r4; exact ⟨_, _, rfl, r1, r3⟩
theorem call_max2 (hc : X.calm = true) : CallR X (.builtin "max") (fun xs H Q => ∃ i j, xs = [.int i, .int j] ∧ Q (.int (if j > i then j else i)) H) := by
  intro pins s σ H xs us Q I r h
  obtain ⟨i, j, rfl, q⟩ := h
  obtain ⟨u, w', rfl, ⟨t, rfl⟩, ⟨t', rfl⟩⟩ := vals2 r
  refine max_two_ints (I.ok.hd hc) fun h' tk k => ⟨_, H, I.kept k, ?_, q⟩
  by_cases hj : j > i
  · rw [if_pos hj, if_pos hj]; exact ⟨_, rfl⟩
  · rw [if_neg hj, if_neg hj]; exact ⟨_, rfl⟩
theorem call_min2 (hc : X.calm = true) : CallR X (.builtin "min") (fun xs H Q => ∃ i j, xs = [.int i, .int j] ∧ Q (.int (if j < i then j else i)) H) := by
  intro pins s σ H xs us Q I r h
  obtain ⟨i, j, rfl, q⟩ := h
  obtain ⟨u, w', rfl, ⟨t, rfl⟩, ⟨t', rfl⟩⟩ := vals2 r
  refine min_two_ints (I.ok.hd hc) fun h' tk k => ⟨_, H, I.kept k, ?_, q⟩
  by_cases hj : j < i
  · rw [if_pos hj, if_pos hj]; exact ⟨_, rfl⟩
  · rw [if_neg hj, if_neg hj]; exact ⟨_, rfl⟩
theorem call_int1 : CallR X (.type "int") (fun xs H Q => (∃ i, xs = [.int i] ∧ Q (.int i) H) ∨ ∃ k, xs = [.bl k] ∧ Q (.int (if k then 1 else 0)) H) := by
  intro pins s σ H xs us Q I r h
  rcases h with ⟨i, rfl, q⟩ | ⟨k, rfl, q⟩
  · obtain ⟨u, rfl, t, rfl⟩ := vals1 r
    exact call_int_int ⟨.int i, H, I, ⟨_, rfl⟩, q⟩
  · obtain ⟨u, rfl, r1⟩ := vals1 r
    cases r1
    exact call_int_bool ⟨.int (if k then 1 else 0), H, I.tok _, ⟨_, rfl⟩, q⟩
/-- len of a str, a bytes, a list, a tuple -/
def LenV (K : PySem.W.Frag) (x : V) (H : Hp) (n : Nat) : Prop :=
  match x with
  | .str y => y.length ≤ sizeLine ∧ n = y.length
  | .byt y => y.size ≤ sizeLine ∧ n = y.size
  | .ref p => (∃ xs, SqL K H p xs ∧ n = xs.length) ∨ ∃ xs, SqT K H p xs ∧ n = xs.length
  | _ => False
theorem call_len : CallR X (.builtin "len") (fun xs H Q => ∃ x n, xs = [x] ∧ LenV X.K x H n ∧ Q (.int n) H) := by
  intro pins s σ H xs us Q I r h
  obtain ⟨x, n, rfl, e, q⟩ := h
  obtain ⟨u, rfl, rx⟩ := vals1 r
  have hl := line63
  have hs : sizeLine = 16777216 := sizeLine_eq
  cases x with
  | str y =>
    obtain ⟨t, rfl⟩ := rx
    obtain ⟨hy, e'⟩ : y.length ≤ sizeLine ∧ n = y.length := e
    subst e'
    exact len_str (by omega) ⟨.int _, H, I.tok _, ⟨_, rfl⟩, q⟩
  | byt y =>
    obtain ⟨t, rfl⟩ := rx
    obtain ⟨hy, e'⟩ : y.size ≤ sizeLine ∧ n = y.size := e
    subst e'
    exact PySem.W.len_bytes (by omega) ⟨.int _, H, I.tok _, ⟨_, rfl⟩, q⟩
  | ref p =>
    cases rx
    have e' : (∃ xs, SqL X.K H p xs ∧ n = xs.length) ∨ ∃ xs, SqT X.K H p xs ∧ n = xs.length := e
    rcases e' with ⟨xs, hx, e'⟩ | ⟨xs, hx, e'⟩
    · subst e'
      obtain ⟨its, r', pl, hz⟩ := I.list hx
      have hlen := r'.length
      exact Calls.call_len_list pl.isList (by simp only [List.size_toArray]; omega) ⟨.int xs.length, H, I.tok _, ⟨_, by simp only [List.size_toArray]; rw [hlen]⟩, q⟩
    · subst e'
      obtain ⟨its, r', pl, hz⟩ := I.tuple hx
      have hlen := r'.length
      exact len_tuple pl (by simp only [List.size_toArray]; omega) ⟨.int xs.length, H, I.tok _, ⟨_, by simp only [List.size_toArray]; rw [hlen]⟩, q⟩
  | _ => exact (show False from e).elim
end
end L2

namespace L2
open PySem PySem.Spec PyProof.Rows

/-! ### an instance, its attributes a map -/
structure ObjM (h : Heap) (x dx C : Addr) (mA : Str → Option Value) : Prop where
  obj : h.get? x = some (PySem.W.instObj C dx)
  ns : h.Ns1 dx mA
  ne : dx ≠ x

theorem lookIn_ns {h : Heap} {dx : Addr} {mA : Str → Option Value} (n : h.Ns1 dx mA) : ∃ od, h.get? dx = some od ∧ ∀ name, PySem.W.lookIn name od = some (mA name) := by
  obtain ⟨o, es, ep, ho, hd, hk, _, hm⟩ := n
  refine ⟨o, ho, fun name => ?_⟩
  have e := hm name
  unfold nsFind findBy at e
  rw [← Array.find?_toList] at e
  unfold PySem.W.lookIn
  rw [hd]
  dsimp only
  split
  · rename_i y q
    rw [q] at e
    exact congrArg some e
  · rename_i q
    rw [q] at e
    have a : es.toList.any (·.refKey) = false := by
      rw [List.any_eq_false]
      intro y hy
      obtain ⟨z, t, hkey⟩ := hk y (Array.mem_toList_iff.mp hy)
      simp [DictEntry.refKey, hkey]
    have a' : ¬ es.toList.any (·.refKey) = true := by rw [a]; exact Bool.false_ne_true
    rw [if_neg a']
    exact congrArg some e

theorem ObjM.look {h : Heap} {x dx C : Addr} {mA : Str → Option Value} (I : ObjM h x dx C mA) : ∃ od, PySem.W.InstAt h x (PySem.W.instObj C dx) C (some od) ∧ ∀ name, PySem.W.lookIn name od = some (mA name) :=
  let ⟨od, ho, hl⟩ := lookIn_ns I.ns
  ⟨od, ⟨I.obj, rfl, rfl, ho⟩, hl⟩

section
variable {prog : Program} {w : World} {A : Around} {E : Value → Shared → Prop} {s : Shared} {K : PySem.W.Frag} {x dx C f : Addr} {mA : Str → Option Value} {name : Str} {v : Value}

theorem set_map {ns : List Str} {Q : Unit → Shared → Prop} (X : K.In s.heap) (I : ObjM s.heap x dx C mA)
    (hs : PySem.W.findIn K (.ref C) "__setattr__" = some (some (.builtin "object.__setattr__"))) (hp : PySem.W.plainOver K C = true) (ht : PySem.W.takerIn K C name = some none) (hh : PySem.W.hasDictIn K C = true)
    (hw : PySem.Within mA ns) (hsz : ns.length ≤ sizeLine)
    (h : ∀ h', ObjM h' x dx C (fun y => if y = name then some v else mA y) → Heap.SameBut dx s.heap h' → Q () { s with heap := h', toks := s.toks + 2 }) :
    wpAny (model prog w) A (setAttr (.ref x) name v) Q E s := by
  obtain ⟨od, J, hl⟩ := I.look
  refine PySem.W.set_plain X J hs (PySem.W.osa_open (s := { s with toks := s.toks + 1 }) (r := none) X J hp ht fun b => ?_)
  obtain ⟨cd, hc, hd'⟩ := PySem.W.any_some hh
  have hx : s.heap.get? x = some ⟨.ref C, some dx, .plain, #[]⟩ := I.obj
  refine wpAny_bind (wpAny_pure (wpAny_bind (wpAny_bind (wpAny_loadPart hx (wpAny_bind (PySem.W.Looks.here (s := { s with toks := s.toks + 1 }) (PySem.W.looks_clsIn X hc) ?_))))))
  rw [hd']
  refine wpAny_pure (a := some dx) (wpAny_bind (wpAny_pure (wpAny_bind ?_)))
  refine wpAny_nsSet1 (s := { s with toks := s.toks + 1 }) I.ns fun h' hn2 hs2 => ?_
  obtain ⟨oD, esD, epD, hoD, hdD, hcD⟩ := hn2.count (PySem.Within.cons name v hw)
  refine wpAny_bind (wpAny_lookBehind hoD (by rw [hdD]; exact pastItsLine_dict (Nat.le_trans hcD (by rw [List.length_cons]; omega))) ?_)
  exact wpAny_pure (h _ ⟨(hs2.2 _ (Ne.symm I.ne)).trans I.obj, hn2, I.ne⟩ hs2)

/-- C(..): the dict at the heap's end, the instance behind it; then its __init__ -/
theorem make_map {R : Result → Shared → Prop} {vs : List Value} {kw : List (Str × Value)} (X : K.In s.heap) (hm : PySem.W.makesIn K C = true)
    (hi : PySem.W.findIn K (.ref C) "__init__" = some (some (.ref f))) (hf : PySem.W.typeIn K (.ref f) = some (.type "function"))
    (h : codeAny (model prog w) (A.under (.builtin "type.__call__" ⟨.ref C :: vs, kw⟩)) (.call (.ref f) ⟨.ref (s.heap.objs.size + 1) :: vs, kw⟩) (PySem.W.InitBack (s.heap.objs.size + 1) R)
      { s with heap := (s.heap.push PySem.W.emptyDict).push (PySem.W.instObj C s.heap.objs.size) }) :
    codeAny (model prog w) A (.call (.ref C) ⟨vs, kw⟩) R s := by
  obtain ⟨hh, g, d, t, os⟩ := s
  exact PySem.W.make_core (PySem.W.makes_of X hm) (PySem.W.looks_findIn X hi) (fun self => PySem.W.bind_fn X self hf) (.inl rfl) h
end

/-! ### the attributes as a list of pairs -/
def putF (f : Str) (v : V) : List (Str × V) → List (Str × V)
  | [] => [(f, v)]
  | (g, x) :: r => if g = f then (g, v) :: r else (g, x) :: putF f v r
theorem lookup_putF (f g : Str) (v : V) : ∀ fs : List (Str × V), (putF f v fs).lookup g = if g = f then some v else fs.lookup g
  | [] => by
    show List.lookup g [(f, v)] = _
    by_cases h : g = f
    · have hb : (g == f) = true := beq_iff_eq.mpr h
      simp only [List.lookup, hb, if_pos h]
    · have hb : (g == f) = false := beq_eq_false_iff_ne.mpr h
      simp only [List.lookup, hb, if_neg h]
  | (k, x) :: r => by
    have ih := lookup_putF f g v r
    rw [show putF f v ((k, x) :: r) = (if k = f then (k, v) :: r else (k, x) :: putF f v r) from rfl]
    by_cases hk : k = f
    · rw [if_pos hk]
      by_cases h : g = k
      · have hb : (g == k) = true := beq_iff_eq.mpr h
        simp only [List.lookup, hb, if_pos (h.trans hk)]
      · have hb : (g == k) = false := beq_eq_false_iff_ne.mpr h
        simp only [List.lookup, hb, if_neg (fun e : g = f => h (e.trans hk.symm))]
    · rw [if_neg hk]
      by_cases h : g = k
      · have hb : (g == k) = true := beq_iff_eq.mpr h
        simp only [List.lookup, hb, if_neg (fun e : g = f => hk (h.symm.trans e))]
      · have hb : (g == k) = false := beq_eq_false_iff_ne.mpr h
        simp only [List.lookup, hb]
        exact ih
theorem keys_putF (f : Str) (v : V) : ∀ fs : List (Str × V), f ∈ (putF f v fs).map (·.1) ∧ ∀ g, g ∈ fs.map (·.1) → g ∈ (putF f v fs).map (·.1)
  | [] => ⟨by simp [putF], fun g h => by simp at h⟩
  | (k, x) :: r => by
    obtain ⟨i1, i2⟩ := keys_putF f v r
    rw [show putF f v ((k, x) :: r) = (if k = f then (k, v) :: r else (k, x) :: putF f v r) from rfl]
    by_cases hk : k = f
    · rw [if_pos hk]
      subst hk
      exact ⟨by simp, fun g h => by simpa using h⟩
    · rw [if_neg hk]
      refine ⟨?_, fun g h => ?_⟩
      · rw [List.map_cons]
        exact List.mem_cons_of_mem _ i1
      · rw [List.map_cons] at h ⊢
        rcases List.mem_cons.mp h with e | e
        · exact List.mem_cons.mpr (.inl e)
        · exact List.mem_cons_of_mem _ (i2 g e)
theorem length_putF (f : Str) (v : V) : ∀ fs : List (Str × V), (putF f v fs).length ≤ fs.length + 1
  | [] => by simp [putF]
  | (k, x) :: r => by
    have ih := length_putF f v r
    rw [show putF f v ((k, x) :: r) = (if k = f then (k, v) :: r else (k, x) :: putF f v r) from rfl]
    by_cases hk : k = f
    · rw [if_pos hk, List.length_cons, List.length_cons]; omega
    · rw [if_neg hk, List.length_cons, List.length_cons]; omega

theorem handed_of {v : V} {u : Value} (r : RelV v u) : PySem.W.handedIn u = true := by
  cases v with
  | non => cases (show u = Value.none from r); rfl
  | bl b => cases (show u = Value.bool b from r); rfl
  | int i => obtain ⟨t, e⟩ := (show ∃ t, u = Value.int i t from r); cases e; rfl
  | str x => obtain ⟨t, e⟩ := (show ∃ t, u = Value.str x t from r); cases e; rfl
  | byt b => obtain ⟨t, e⟩ := (show ∃ t, u = Value.bytes b t from r); cases e; rfl
  | flt b => obtain ⟨t, e⟩ := (show ∃ t, u = Value.float b t from r); cases e; rfl
  | ref a => cases (show u = Value.ref a from r); rfl
  | ty n => cases (show u = Value.type n from r); rfl

section
variable {P : Program} {w : World} {H H' : Hp} {h h' : Heap} {a C dx : Addr} {fs fs' : List (Str × V)}
theorem ins_get (hok : HOk P w H h) (e : H a = some (.ins C dx fs)) : ∃ mA, ObjM h a dx C mA ∧ (∀ f, RelO (fs.lookup f) (mA f)) ∧ PySem.Within mA (fs.map (·.1)) ∧ fs.length ≤ 1000 ∧ H dx = some (.own a) := by
  obtain ⟨d, z, ne, ob, mA, n, r, q⟩ := (show ObjOk P w H h a (.ins C dx fs) from hok a _ e)
  exact ⟨mA, ⟨ob, n, ne⟩, r, q, z, d⟩
end

/-! ### what of the text a class must have -/
structure Cls (K : PySem.W.Frag) (C : Addr) : Prop where
  pg : PySem.W.plainGet K C Str.empty = true
  hd : PySem.W.hasDictIn K C = true
  po : PySem.W.plainOver K C = true
  sa : PySem.W.findIn K (.ref C) "__setattr__" = some (some (.builtin "object.__setattr__"))
theorem Cls.get {K : PySem.W.Frag} {C : Addr} (c : Cls K C) (f : Str) : PySem.W.plainGet K C f = true := c.pg
/-- no class of it has the name -/
def NoAttr (K : PySem.W.Frag) (C : Addr) (f : Str) : Prop := PySem.W.findIn K (.ref C) f = some none
theorem NoAttr.taker {K : PySem.W.Frag} {C : Addr} {f : Str} (n : NoAttr K C f) : PySem.W.takerIn K C f = some none := by
  unfold PySem.W.takerIn
  rw [show PySem.W.findIn K (.ref C) f = some none from n]
  rfl
/-- a constant of the class -/
structure Con (K : PySem.W.Frag) (C : Addr) (f : Str) (v : V) (u : Value) : Prop where
  at_ : PySem.W.findIn K (.ref C) f = some (some u)
  rel : RelV v u
  get : PySem.W.specialIn K u "__get__" = some none
  cp : PySem.W.copiedNames.contains f = false
/-- a method: a plain def of the class or of one above it -/
structure Meth (K : PySem.W.Frag) (C : Addr) (m : Str) (f : Addr) : Prop where
  at_ : PySem.W.findIn K (.ref C) m = some (some (.ref f))
  fn : PySem.W.isFn K (.ref f) = true
  kp : PySem.W.keepIn K (.ref f) = true

section
variable {X : Cx} {pins : List (Addr × Obj)} {σ : St} {H : Hp} {s : Shared} {a C dx : Addr} {fs : List (Str × V)} {f : Str} {v : V} {A : Around} {E : Value → Shared → Prop}

theorem setattr_ok {y : V} {u : Value} {Q : Unit → Shared → Prop} (I : Inv X pins σ H s) (e : H a = some (.ins C dx fs)) (c : Cls X.K C) (n : NoAttr X.K C f) (hl : fs.length < 1000) (ry : RelV y u)
    (h : ∀ s', Inv X pins σ (upd H a (.ins C dx (putF f y fs))) s' → Q () s') : wpAny (model X.prog X.w) A (setAttr (.ref a) f u) Q E s := by
  obtain ⟨mA, O, r, wi, _, ho⟩ := ins_get I.hok e
  have hz : (fs.map (·.1)).length ≤ sizeLine := by rw [List.length_map, sizeLine_eq]; omega
  refine set_map I.kIn O c.sa c.po n.taker c.hd wi hz fun h' O' sb => h _ ?_
  have hd : ∃ o, h'.get? dx = some o := let ⟨o, _, _, e', _⟩ := O'.ns; ⟨o, e'⟩
  refine I.write (x := a) (e := dx) (by rw [e]; exact True.intro) (.inr ho) (fun b q hb z => (sb.2 b hb).trans z) hd ?_
  refine ⟨by rw [upd_ne O.ne]; exact ho, ?_, O.ne, O'.obj, _, O'.ns, fun g => ?_, fun g hg => ?_⟩
  · have := length_putF f y fs; omega
  · show RelO ((putF f y fs).lookup g) (if g = f then some u else mA g)
    rw [lookup_putF]
    by_cases q : g = f
    · rw [if_pos q, if_pos q]; exact ry
    · rw [if_neg q, if_neg q]; exact r g
  · by_cases q : g = f
    · rw [q]; exact (keys_putF f y fs).1
    · refine (keys_putF f y fs).2 g (wi g fun z => hg ?_)
      show (if g = f then some u else mA g) = none
      rw [if_neg q]; exact z

/-- a new instance, tracked, without attributes -/
theorem Inv.made (I : Inv X pins σ H s) : Inv X pins σ (upd (upd H s.heap.objs.size (.own (s.heap.objs.size + 1))) (s.heap.objs.size + 1) (.ins C s.heap.objs.size []))
    { s with heap := (s.heap.push PySem.W.emptyDict).push (PySem.W.instObj C s.heap.objs.size) } := by
  have e1 : (s.heap.push PySem.W.emptyDict).get? s.heap.objs.size = some PySem.W.emptyDict := Heap.get?_push_size s.heap rfl
  have e2 : ((s.heap.push PySem.W.emptyDict).push (PySem.W.instObj C s.heap.objs.size)).get? (s.heap.objs.size + 1) = some (PySem.W.instObj C s.heap.objs.size) := by
    have := Heap.get?_push_size (s.heap.push PySem.W.emptyDict) (o := PySem.W.instObj C s.heap.objs.size) rfl
    rwa [Heap.size_push] at this
  have e3 : (s.heap.push PySem.W.emptyDict).Ns s.heap.objs.size (fun _ => none) := ⟨PySem.W.emptyDict, #[], _, e1, rfl, (fun e he => absurd he (by simp)), fun _ => rfl⟩
  have I1 := I.laid (a := s.heap.objs.size) (o := .own (s.heap.objs.size + 1)) (h' := s.heap.push PySem.W.emptyDict) (t' := s.toks) (fun b u q => Heap.get?_push_of_some _ q) (Nat.le_refl _) ⟨_, e1⟩
  refine I1.laid (a := s.heap.objs.size + 1) (o := .ins C s.heap.objs.size []) (t' := s.toks) (fun b u q => Heap.get?_push_of_some _ q) (Nat.le_of_eq (Heap.size_push _ _)) ?_
  have ne : s.heap.objs.size ≠ s.heap.objs.size + 1 := Nat.ne_of_lt (Nat.lt_succ_self _)
  refine ⟨by rw [upd_ne ne, upd_same], Nat.zero_le _, ne, e2, fun _ => none, (Heap.Ns1.of_empty e3).at fun o q => Heap.get?_push_of_some _ q, fun _ => True.intro, fun y hy => absurd rfl hy⟩

/-- e.f where nothing but the object is asked: through attributeBase (super) and the last hold -/
theorem attr_of {prog : Program} {w : World} {env : Env} {e : Expr} {f : Str} {pos : Pos} {s : Shared} {Q : Value → Shared → Prop} (hb : attributeBase e f env (eval e env) = eval e env)
    (h : wpAny (model prog w) A (eval e env) (fun o s₁ => wpAny (model prog w) A (getAttr o f true) Q E s₁) E s) : wpAny (model prog w) A (eval (.Attribute e f pos) env) Q E s :=
  Attribute_any_ h (by rw [arm_eval_Attribute, hb])
end

/-! ### readings and rules -/
/-- e.f, an attribute of the instance -/
def tFld (K : PySem.W.Frag) (ta : TE) (f : Str) : TE := fun σ H Q => ta σ H fun x H1 => ∃ a C dx fs v, x = .ref a ∧ H1 a = some (.ins C dx fs) ∧ Cls K C ∧ NoAttr K C f ∧ fs.lookup f = some v ∧ Q v H1
/-- e.f, a constant of the class -/
def tCon (K : PySem.W.Frag) (ta : TE) (f : Str) : TE := fun σ H Q => ta σ H fun x H1 => ∃ a C dx fs v u, x = .ref a ∧ H1 a = some (.ins C dx fs) ∧ Cls K C ∧ Con K C f v u ∧ fs.lookup f = none ∧ Q v H1
/-- e.f = value -/
def sFld (K : PySem.W.Frag) (ta tv : TE) (f : Str) : TS := fun D σ H => tv σ H fun y H1 => ta σ H1 fun x H2 => ∃ a C dx fs, x = .ref a ∧ H2 a = some (.ins C dx fs) ∧ Cls K C ∧ NoAttr K C f ∧ fs.length < 1000 ∧
  D.nx σ (upd H2 a (.ins C dx (putF f y fs)))
/-- an augmented operator on two values -/
def InOp (X : Cx) (op : Operator) (rd : V → V → Hp → VK → Prop) : Prop :=
  ∀ (pins : List (Addr × Obj)) (s : Shared) (σ : St) (H : Hp) (x y : V) (u v : Value) (Q : VK), Inv X pins σ H s → RelV x u → RelV y v → rd x y H Q → wpAny (model X.prog X.w) X.A (inplaceOp op u v) (EP X pins σ Q) X.xe s
/-- e.f op= value -/
def sFldAug (K : PySem.W.Frag) (ta tv : TE) (rd : V → V → Hp → VK → Prop) (f : Str) : TS := fun D σ H => ta σ H fun x H1 => ∃ a C dx fs v, x = .ref a ∧ H1 a = some (.ins C dx fs) ∧ Cls K C ∧ NoAttr K C f ∧ fs.lookup f = some v ∧
  tv σ H1 fun y H2 => rd v y H2 fun z H3 => ∃ dx' fs', H3 a = some (.ins C dx' fs') ∧ fs'.length < 1000 ∧ D.nx σ (upd H3 a (.ins C dx' (putF f z fs')))

section
variable {X : Cx} {o e value : Expr} {f : Str} {pos pos' tpos : Pos} {ta tv : TE}
theorem ps_fld (ha : PE X o ta) (hv : PE X value tv) (hs : swapsWith value (some (.Attribute o f pos')) pos.line X.env = pure false) : PS X (.Assign [.Attribute o f pos'] value pos) (sFld X.K ta tv f) := by
  intro pins s σ H D I h
  refine plainObj_wpAny_Assign_Attribute (thn (hv pins s σ H _ I h) fun u s1 ⟨y, H1, I1, ry, q⟩ => thn (ha pins s1 σ H1 _ I1 q) fun ov s2 ⟨x, H2, I2, rx, a, C, dx, fs, ex, ea, c, n, l, q2⟩ => ?_) hs
  subst ex
  obtain rfl : ov = Value.ref a := rx
  exact setattr_ok I2 ea c n l ry fun s3 I3 => ⟨σ, _, I3, q2⟩
def rAdd : V → V → Hp → VK → Prop := fun x y H Q => ∃ i j, x = .int i ∧ y = .int j ∧ Q (.int (i + j)) H
def rSub : V → V → Hp → VK → Prop := fun x y H Q => ∃ i j, x = .int i ∧ y = .int j ∧ Q (.int (i - j)) H
end

/-! ### isinstance -/
section
variable {X : Cx} {pins : List (Addr × Obj)} {σ : St} {H : Hp} {s : Shared} {A : Around} {E : Value → Shared → Prop} {Q : Value → Shared → Prop} {c : Value} {b : Bool}
/-- the type of a value, as the fragment's deciders take it; for an instance its class -/
inductive TyOf (K : PySem.W.Frag) (H : Hp) : V → Value → Prop where
  | non : TyOf K H .non (.type "NoneType")
  | bl (x : Bool) : TyOf K H (.bl x) (.type "bool")
  | int (i : Int) : TyOf K H (.int i) (.type "int")
  | str (x : Str) : TyOf K H (.str x) (.type "str")
  | flt (x : UInt64) : TyOf K H (.flt x) (.type "float")
  | lst {a : Addr} {xs : List V} (e : H a = some (.lst xs)) : TyOf K H (.ref a) (.type "list")
  | frz {a : Addr} {o : Obj} {xs : List V} (e : H a = some (.frz o (.lst xs))) : TyOf K H (.ref a) (.type "list")
  | tup {a : Addr} {xs : List V} (e : H a = some (.tup xs)) : TyOf K H (.ref a) (.type "tuple")
  | dK {a : Addr} {kvs : List (Key × V)} (e : H a = some (.dK kvs)) : TyOf K H (.ref a) (.type "dict")
  | dT {a : Addr} {kvs : List (List Key × V)} (e : H a = some (.dT kvs)) : TyOf K H (.ref a) (.type "dict")
  | ins {a C dx : Addr} {fs : List (Str × V)} (e : H a = some (.ins C dx fs)) (cl : Cls K C) (ha : PySem.W.findIn K (.ref C) "__class__" = some (some (.builtin "object.__class__")))
      (hn : PySem.W.specialIn K (.builtin "object.__class__") "__get__" = some (some (.builtin "getset_descriptor.__get__"))) (htk : PySem.W.takesIn K (.builtin "object.__class__") = some true)
      (hm : PySem.W.mroIn K C (.type "object") = some true) : TyOf K H (.ref a) (.ref C)
/-- isinstance(x, c) for one class c, a built-in or an own one: kitOne's answer -/
theorem isinst_ok {x : V} {u t : Value} (I : Inv X pins σ H s) (rx : RelV x u) (ty : TyOf X.K H x t) (e : PySem.W.kitOne X.K t c = some b) (h : ∀ tk, Q (.bool b) { s with toks := tk }) :
    wpAny (model X.prog X.w) A (call (.builtin "isinstance") [u, c]) Q E s := by
  cases ty with
  | non => cases (show u = Value.none from rx); exact PySem.W.kia_one PySem.W.kitx_none I.kIn True.intro e (fun z => nomatch z) h
  | bl y => cases (show u = Value.bool y from rx); exact PySem.W.kia_one PySem.W.kitx_bool I.kIn True.intro e (fun z => nomatch z) h
  | int i => obtain ⟨t, q⟩ := (show ∃ t, u = Value.int i t from rx); cases q; exact PySem.W.kia_one PySem.W.kitx_int I.kIn True.intro e (fun z => nomatch z) h
  | str y => obtain ⟨t, q⟩ := (show ∃ t, u = Value.str y t from rx); cases q; exact PySem.W.kia_one PySem.W.kitx_str I.kIn True.intro e (fun z => nomatch z) h
  | flt y => obtain ⟨t, q⟩ := (show ∃ t, u = Value.float y t from rx); cases q; exact PySem.W.kia_one PySem.W.kitx_float I.kIn True.intro e (fun z => nomatch z) h
  | @lst a xs ea =>
    cases (show u = Value.ref a from rx)
    obtain ⟨_, _, n, _, h1⟩ := (show ObjOk X.prog X.w H s.heap a (.lst xs) from I.hok a _ ea)
    exact PySem.W.kia_one PySem.W.kitx_list I.kIn ⟨_, h1, rfl⟩ e (fun z => nomatch z) h
  | @frz a ob xs ea =>
    cases (show u = Value.ref a from rx)
    obtain ⟨_, _, _, n, _, h1⟩ := (show ObjOk X.prog X.w H s.heap a (.frz ob (.lst xs)) from I.hok a _ ea)
    exact PySem.W.kia_one PySem.W.kitx_list I.kIn ⟨_, h1, rfl⟩ e (fun z => nomatch z) h
  | @tup a xs ea =>
    cases (show u = Value.ref a from rx)
    obtain ⟨_, _, _, p⟩ := (show ObjOk X.prog X.w H s.heap a (.tup xs) from I.hok a _ ea)
    obtain ⟨o, h1, h2, _⟩ := p
    exact PySem.W.kia_one PySem.W.kitx_tuple I.kIn ⟨o, h1, h2⟩ e (fun z => nomatch z) h
  | @dK a kvs ea =>
    cases (show u = Value.ref a from rx)
    obtain ⟨_, _, vs, _, p⟩ := (show ObjOk X.prog X.w H s.heap a (.dK kvs) from I.hok a _ ea)
    obtain ⟨o, es, ep, h1, h2, _⟩ := p
    exact PySem.W.kia_one PySem.W.kitx_dict I.kIn ⟨o, h1, h2.1⟩ e (fun z => nomatch z) h
  | @dT a kvs ea =>
    cases (show u = Value.ref a from rx)
    obtain ⟨_, _, xs, _, o, es, ep, h1, h2, _⟩ := (show ObjOk X.prog X.w H s.heap a (.dT kvs) from I.hok a _ ea)
    exact PySem.W.kia_one PySem.W.kitx_dict I.kIn ⟨o, h1, h2.1⟩ e (fun z => nomatch z) h
  | @ins a C dx fs ea cl ha hn htk hm =>
    cases (show u = Value.ref a from rx)
    obtain ⟨mA, O, _⟩ := ins_get I.hok ea
    obtain ⟨od, J, _⟩ := O.look
    exact PySem.W.kia_one (PySem.W.kitx_own (cl.get _) cl.hd ha hn htk hm) I.kIn J e (fun z => nomatch z) h
end
end L2

namespace L2
open PySem PySem.Spec PyProof.Rows

/-! ### room -/
structure Room (k : Nat) (A : Around) : Prop where
  hd : A.handled = none
  dp : A.depth + 3 * k + 5 < recursionLimit
  un : A.units + 16 * k + 200 < cLine
  gd : A.guards = some []
theorem Room.mono {j k : Nat} {A : Around} (r : Room k A) (h : j ≤ k) : Room j A := ⟨r.hd, by have := r.dp; omega, by have := r.un; omega, r.gd⟩
theorem Room.deeper {k : Nat} {A : Around} (r : Room (k + 1) A) (env : Env) : Room k (A.deeper env) :=
  ⟨r.hd, by have := r.dp; show A.depth + 1 + 3 * k + 5 < _; omega, by have := r.un; show A.units + 3 + 16 * k + 200 < _; omega, r.gd⟩
theorem make_depth {A : Around} {C : Addr} {us : List Value} {kw : List (Str × Value)} : (A.under (.builtin "type.__call__" ⟨.ref C :: us, kw⟩)).depth = A.depth + 1 := by
  first | rfl | simp [Around.under, Code.weight, Code.isCreation, Code.isGuard, Code.isCaller, Code.frames, Code.isFrame, guardIds]
theorem make_units {A : Around} {C : Addr} {us : List Value} {kw : List (Str × Value)} : (A.under (.builtin "type.__call__" ⟨.ref C :: us, kw⟩)).units = A.units + 1 := by
  first | rfl | simp [Around.under, Code.cUnits, Code.frames, Code.isFrame]
theorem Room.make {k : Nat} {A : Around} (r : Room (k + 1) A) (C : Addr) (us : List Value) (kw : List (Str × Value)) : Room k (A.under (.builtin "type.__call__" ⟨.ref C :: us, kw⟩)) :=
  ⟨r.hd, by have := r.dp; rw [make_depth]; omega, by have := r.un; rw [make_units]; omega, by rw [← r.gd]; first | rfl | simp [Around.under, Code.guards, Code.isGuard, guardIds, pushGuards]⟩
theorem Room.depth {k : Nat} {A : Around} (r : Room k A) : A.depth < recursionLimit := by have := r.dp; omega
/-! ### argument lists and displays -/
def tNil : TA := fun _ H Q => Q [] H
def tCons (ta : TE) (tr : TA) : TA := fun σ H Q => ta σ H fun x H1 => tr σ H1 fun xs H2 => Q (x :: xs) H2
section
variable {X : Cx} {e : Expr} {es : List Expr} {te : TE} {t : TA} {pos : Pos}
theorem pa_nil : PA X [] tNil := fun _ _ _ _ H Q I h => Calls.spliced_nil ⟨[], H, I, .nil, h⟩
theorem pa_cons (ha : PE X e te) (hr : PA X es t) (hs : starEach (e :: es) X.env = (false, eval e X.env) :: starEach es X.env := by rfl) : PA X (e :: es) (tCons te t) := by
  intro pos pins s σ H Q I h
  rw [hs]
  show wpAny _ _ (spliced ((false, eval e X.env) :: backTo pos (starEach es X.env))) _ _ s
  refine Calls.spliced_cons (thn (ha pins s σ H _ I h) fun u s1 ⟨x, H1, I1, r1, q1⟩ => ?_)
  exact thn (hr pos pins s1 σ H1 _ I1 q1) fun us s2 ⟨xs, H2, I2, r2, q2⟩ => ⟨x :: xs, H2, I2, .cons r1 r2, q2⟩

/-- a tuple, a list of written items -/
def tTup (t : TA) : TE := fun σ H Q => t σ H fun xs H1 => xs.length ≤ sizeLine ∧ ∀ p, H1 p = none → Q (.ref p) (upd H1 p (.tup xs))
def tLst (t : TA) : TE := fun σ H Q => t σ H fun xs H1 => xs.length ≤ sizeLine ∧ ∀ p, H1 p = none → Q (.ref p) (upd H1 p (.lst xs))
theorem pe_tup {x1} (h : PA X es t) : PE X (.Tuple es x1 pos) (tTup t) := by
  intro pins s σ H Q I hq
  refine wpAny_Tuple_spliced (thn (h pos pins s σ H _ I hq) fun us s1 ⟨xs, H1, I1, r, z, q⟩ => ⟨by rw [← r.length]; exact z, ?_⟩)
  have hf : H1 s1.heap.objs.size = none := I1.hok.fresh (Nat.le_refl _)
  refine ⟨.ref s1.heap.objs.size, upd H1 s1.heap.objs.size (.tup xs), I1.laid (t' := s1.toks) (fun b u e => Heap.get?_push_of_some _ e) (Nat.le_refl _) ?_, rfl, q _ hf⟩
  exact ⟨z, us, r, ⟨_, Heap.get?_push_size _ rfl, rfl, _, rfl⟩⟩
theorem pe_lst (h : PA X es t) : PE X (.List es pos) (tLst t) := by
  intro pins s σ H Q I hq
  refine wpAny_List_spliced (thn (h pos pins s σ H _ I hq) fun us s1 ⟨xs, H1, I1, r, z, q⟩ => ⟨by rw [← r.length]; exact z, ?_⟩)
  have hf : H1 s1.heap.objs.size = none := I1.hok.fresh (Nat.le_refl _)
  refine ⟨.ref s1.heap.objs.size, upd H1 s1.heap.objs.size (.lst xs), I1.laid (t' := s1.toks) (fun b u e => Heap.get?_push_of_some _ e) (Nat.le_refl _) ?_, rfl, q _ hf⟩
  exact ⟨z, us, 0, r, Heap.get?_push_size _ rfl⟩
end

/-! ### what a def promises -/
/-- a def's promise: the bound arguments in the parameters' order, the heap, the wanted end, the wanted exception -/
abbrev Sp := List V → Hp → VK → XK → Prop
/-- how an exception lies behind a call (file 08 gives it): the callers' frames, abstract heap and state ahead of the call, the wish, the exception, the state -/
abbrev CXT := List Env → Hp → Shared → XK → Value → Shared → Prop

/-- the state at a call -/
structure Env0 (P : Program) (w : World) (K : PySem.W.Frag) (mg : Str → Option Value) (base : Heap) (A : Around) (outer : List Env) (s : Shared) (H : Hp) : Prop where
  frames : A.frames = some outer
  mod : Mod K mg base
  bs : ∀ b o, base.get? b = some o → s.heap.get? b = some o ∧ H b = none
  bsz : base.objs.size ≤ s.heap.objs.size
  funs : s.heap.FunFrames base outer
  frf : ∀ b ∈ frs outer, H b = none
  hok : HOk P w H s.heap
  bare : AllBare s.gens
/-- a call's end -/
def CE (outer : List Env) (P : Program) (w : World) (H : Hp) (s : Shared) (Q : VK) (u : Value) (s' : Shared) : Prop :=
  ∃ v H', s'.os = s.os ∧ AllBare s'.gens ∧ Un (frs outer) [] H H' s.heap s'.heap ∧ HOk P w H' s'.heap ∧ RelV v u ∧ Q v H'
def CR (CX : CXT) (outer : List Env) (P : Program) (w : World) (H : Hp) (s : Shared) (Q : VK) (E : XK) (r : Result) (s' : Shared) : Prop :=
  match r with
  | .ok (.ret u) => CE outer P w H s Q u s'
  | .ok _ => False
  | .error e => CX outer H s E e s'
structure FnOk (P : Program) (w : World) (K : PySem.W.Frag) (mg : Str → Option Value) (base : Heap) (CX : CXT) (k : Nat) (f : Addr) (fd : FuncData) (ps : List Str) (sp : Sp) : Prop where
  len : ∀ vs H Q E, sp vs H Q E → vs.length = ps.length
  run : ∀ (A : Around) (outer : List Env) (s : Shared) (H : Hp) (args : Args) (us : List Value) (vs : List V) (Q : VK) (E : XK), Room k A → Env0 P w K mg base A outer s H → BindsTo s fd args (ps.zip us) → Vals vs us → sp vs H Q E →
    codeAny (model P w) A (.call (.ref f) args) (CR CX outer P w H s Q E) s
theorem Env0.make {P : Program} {w : World} {K : PySem.W.Frag} {mg : Str → Option Value} {base : Heap} {A : Around} {outer : List Env} {s : Shared} {H : Hp} (e : Env0 P w K mg base A outer s H) (C : Addr) (us : List Value) (kw : List (Str × Value)) :
    Env0 P w K mg base (A.under (.builtin "type.__call__" ⟨.ref C :: us, kw⟩)) outer s H := ⟨by first | exact e.frames | (simpa [Around.under, Code.envs, Code.isFrame, pushEnvs] using e.frames), e.mod, e.bs, e.bsz, e.funs, e.frf, e.hok, e.bare⟩
section
variable {X : Cx} {pins : List (Addr × Obj)} {σ : St} {H : Hp} {s s' : Shared}
/-- from a body: what a callee wants -/
theorem Inv.env0 (I : Inv X pins σ H s) : Env0 X.prog X.w X.K X.mg X.base X.A X.stack s H :=
  ⟨I.ok.frames, I.ok.mod, I.bs, Nat.le_trans I.ok.bsz I.sz, I.stack, I.stkFree, I.hok, I.bare⟩
/-- behind a call -/
theorem Inv.after {Q : VK} {u : Value} (I : Inv X pins σ H s) (h : CE X.stack X.prog X.w H s Q u s') : EP X pins σ Q u s' := by
  obtain ⟨v, H', os, bare, un, hok, r, q⟩ := h
  obtain ⟨hh, g, d, t, os'⟩ := s'
  obtain rfl : os' = s.os := os
  exact ⟨v, H', I.call (h' := hh) (g' := g) (d' := d) (t' := t) (ch := []) un hok bare (fun b z => absurd z (by simp)), r, q⟩
end

/-! ### calls -/
/-- f(..): the written arguments, then the defaults dvs; E: what is wanted of an exception -/
def tCall (sp : Sp) (dvs : List V) (E : XK) (t : TA) : TE := fun σ H Q => t σ H fun vs H1 => sp (vs ++ dvs) H1 Q E
/-- o.m(..) of an instance of the class at C -/
def tMeth (C : Addr) (m : Str) (sp : Sp) (dvs : List V) (E : XK) (ta : TE) (t : TA) : TE := fun σ H Q => ta σ H fun x H1 => ∃ a dx fs, x = .ref a ∧ H1 a = some (.ins C dx fs) ∧ fs.lookup m = none ∧
  t σ H1 fun vs H2 => sp (x :: (vs ++ dvs)) H2 Q E
/-- C(..): a new instance and its dict, then __init__ -/
def tMake (C : Addr) (sp : Sp) (dvs : List V) (E : XK) (t : TA) : TE := fun σ H Q => t σ H fun vs H1 => ∀ x dx, H1 x = none → H1 dx = none → dx ≠ x →
  sp (.ref x :: (vs ++ dvs)) (upd (upd H1 dx (.own x)) x (.ins C dx [])) (fun v H2 => v = .non ∧ Q (.ref x) H2) E

/-- how the parameters are bound: us the positional arguments, kw the keywords' values by name, ds the defaults that fill up -/
def Binds (K : PySem.W.Frag) (fd : FuncData) (ps : List Str) (ds : List Value) : Prop :=
  ∀ (s : Shared) (us : List Value), K.In s.heap → (us ++ ds).length = ps.length → BindsTo s fd ⟨us, []⟩ (ps.zip (us ++ ds))
/-- every parameter is given -/
theorem Binds.all {K : PySem.W.Frag} {fd : FuncData} {ps : List Str} (h : ∀ us : List Value, us.length = ps.length → bindArgs fd ⟨us, []⟩ = pure (ps.zip us)) : Binds K fd ps [] := fun s us _ hl => by
  rw [List.append_nil] at hl ⊢
  exact .of_eq (h us hl)

/-- an exception of a callee reaches what this body wants of exceptions -/
def Passes (CX : CXT) (X : Cx) (E : XK) : Prop := ∀ (pins : List (Addr × Obj)) (σ : St) (H : Hp) (s : Shared) (e : Value) (s' : Shared), Inv X pins σ H s → CX X.stack H s E e s' → X.xe e s'

section
variable {X : Cx} {CX : CXT} {k : Nat} {f C : Addr} {fd : FuncData} {ps : List Str} {sp : Sp} {dvs : List V} {ds : List Value} {E : XK} {x m : Str} {p pos apos : Pos} {e o : Expr} {es : List Expr} {ta : TE} {t : TA}

/-- the callee runs -/
theorem run_fn {pins : List (Addr × Obj)} {σ : St} {H : Hp} {s : Shared} {Q : VK} {us : List Value} {vs : List V} (F : FnOk X.prog X.w X.K X.mg X.base CX k f fd ps sp) (hr : Room k X.A) (hb : Binds X.K fd ps ds) (hd : Vals dvs ds) (hx : Passes CX X E)
    (I : Inv X pins σ H s) (r : Vals vs us) (h : sp (vs ++ dvs) H Q E) : wpAny (model X.prog X.w) X.A (call (.ref f) us) (EP X pins σ Q) X.xe s := by
  have r2 : Vals (vs ++ dvs) (us ++ ds) := r.append hd
  have hl : (us ++ ds).length = ps.length := by rw [← r2.length]; exact F.len _ _ _ _ h
  refine wpAny_call (codeAny_mono (F.run X.A X.stack s H ⟨us, []⟩ (us ++ ds) (vs ++ dvs) Q E hr I.env0 (hb s us I.kIn hl) r2 h) fun r s' hq => ?_)
  cases r with
  | error e => exact hx pins σ H s e s' I hq
  | ok fl =>
    cases fl with
    | ret u => exact I.after hq
    | next => exact False.elim hq
    | brk => exact False.elim hq
    | cont => exact False.elim hq

theorem pe_call (F : FnOk X.prog X.w X.K X.mg X.base CX k f fd ps sp) (hr : Room k X.A) (hg : Gl X x) (hm : X.mg x = some (.ref f)) (hk : PySem.W.keepIn X.K (.ref f) = true) (hb : Binds X.K fd ps ds) (hd : Vals dvs ds) (hx : Passes CX X E)
    (ha : PA X (e :: es) t) (hdb : (x == ("__debug__" : Str)) = false := by decide) (he : starEach (e :: es) X.env = (false, eval e X.env) :: starEach es X.env := by rfl) (hpl : (backTo pos (starEach es X.env)).any (·.1) = false := by rfl) :
    PE X (.Call (.Name x p) (e :: es) [] pos) (tCall sp dvs E t) := by
  intro pins s σ H Q I h
  refine wpAny_Call_Name_kw (ld_glob I hg hm ?_ hdb)
  refine PySem.W.callWith_K (h₀ := X.base) I.ok.mod.kin hk (thn (ha pos pins s σ H _ I h) fun us s1 ⟨vs, H1, I1, r, q⟩ => ⟨I1.kIn, ?_⟩) he hpl
  exact run_fn F hr hb hd hx I1 r q
/-- what a class must have to be made -/
structure Mk (K : PySem.W.Frag) (C f : Addr) : Prop where
  makes : PySem.W.makesIn K C = true
  init : PySem.W.findIn K (.ref C) "__init__" = some (some (.ref f))
  fn : PySem.W.isFn K (.ref f) = true
  kp : PySem.W.keepIn K (.ref C) = true

end

/-! ### keywords -/
/-- the values of the keywords, from the left -/
def PK (X : Cx) (kws : List Keyword) (t : TA) : Prop :=
  ∀ (pos : Pos) (pins : List (Addr × Obj)) (s : Shared) (σ : St) (H : Hp) (Q : List V → Hp → Prop), Inv X pins σ H s → t σ H Q → wpAny (model X.prog X.w) X.A (evalAll ((backToKw pos (keywordEach kws X.env)).map (·.2))) (AP X pins σ Q) X.xe s
section
variable {X : Cx} {CX : CXT} {k : Nat} {f C : Addr} {fd : FuncData} {ps ks : List Str} {sp : Sp} {E : XK} {x m : Str} {p pos apos kpos : Pos} {e o : Expr} {es : List Expr} {kws : List Keyword} {te ta : TE} {t tk : TA} {nm : Option Str}
/-- how a call with keywords binds: g puts the positional values us and the keywords' values ws (names ks) in the parameters' order, defaults among them -/
structure KBinds (K : PySem.W.Frag) (fd : FuncData) (ps ks : List Str) (g : List Value → List Value → List Value) (gV : List V → List V → List V) : Prop where
  to : ∀ (s : Shared) (us ws : List Value), K.In s.heap → (g us ws).length = ps.length → BindsTo s fd ⟨us, ks.zip ws⟩ (ps.zip (g us ws))
  rel : ∀ {vs : List V} {us : List Value} {zs : List V} {ws : List Value}, Vals vs us → Vals zs ws → Vals (gV vs zs) (g us ws)
def tCallK (sp : Sp) (gV : List V → List V → List V) (E : XK) (t tk : TA) : TE := fun σ H Q => t σ H fun vs H1 => tk σ H1 fun zs H2 => sp (gV vs zs) H2 Q E
variable {g : List Value → List Value → List Value} {gV : List V → List V → List V}
end

/-! ### a def's body keeps its promise -/
/-- names: the parameters first -/
structure FnScope (N P : List Str) (sc : Scope) : Prop where
  kind : sc.kind = .function
  co : sc.isCoroutine = false
  gen : sc.isGenerator = false
  nd : N.Nodup
  pre : N.take P.length = P
  par : ∀ x ∈ P, sc.names.lookup x = some .local ∨ sc.names.lookup x = some .cell
  nofree : ∀ y ∈ sc.names, y.2 ≠ .free

theorem bindL_out {kindOf : Str → Option NameKind} {x : Str} : ∀ {binds : List (Str × Value)} {m : Str → Option Value}, (∀ v, (x, v) ∉ binds) → bindL kindOf binds m x = m x
  | [], _, _ => rfl
  | (n, v) :: r, m, h => by
    unfold bindL
    rw [bindL_out fun w hw => h w (List.mem_cons_of_mem _ hw)]
    split
    · have : x ≠ n := by rintro rfl; exact h v List.mem_cons_self
      simp [this]
    · rfl
theorem bindC_out {kindOf : Str → Option NameKind} {x : Str} : ∀ {binds : List (Str × Value)} {m : Str → Option Value}, (∀ v, (x, v) ∉ binds) → bindC kindOf binds m x = m x
  | [], _, _ => rfl
  | (n, v) :: r, m, h => by
    unfold bindC
    rw [bindC_out fun w hw => h w (List.mem_cons_of_mem _ hw)]
    split
    · rfl
    · have : x ≠ n := by rintro rfl; exact h v List.mem_cons_self
      simp [this]
theorem bindL_get {kindOf : Str → Option NameKind} {x : Str} {v : Value} : ∀ {P : List Str} {vs : List Value} {i : Nat} {m : Str → Option Value}, P.Nodup → P[i]? = some x → vs[i]? = some v → kindOf x = some .local →
    bindL kindOf (P.zip vs) m x = some v
  | [], _, _, _, _, h, _, _ => by simp at h
  | _ :: _, [], _, _, _, _, h, _ => by simp at h
  | p :: P, w :: vs, 0, m, nd, h1, h2, hk => by
    simp at h1 h2; subst h1; subst h2
    show bindL kindOf ((p, w) :: P.zip vs) m p = _
    unfold bindL
    rw [bindL_out fun v hv => (List.nodup_cons.mp nd).1 (List.of_mem_zip hv).1, if_pos hk]
    simp
  | p :: P, w :: vs, i + 1, m, nd, h1, h2, hk => by
    show bindL kindOf ((p, w) :: P.zip vs) m x = _
    unfold bindL
    exact bindL_get (i := i) (List.nodup_cons.mp nd).2 (by simpa using h1) (by simpa using h2) hk
theorem bindC_get {kindOf : Str → Option NameKind} {x : Str} {v : Value} : ∀ {P : List Str} {vs : List Value} {i : Nat} {m : Str → Option Value}, P.Nodup → P[i]? = some x → vs[i]? = some v → kindOf x ≠ some .local →
    bindC kindOf (P.zip vs) m x = some v
  | [], _, _, _, _, h, _, _ => by simp at h
  | _ :: _, [], _, _, _, _, h, _ => by simp at h
  | p :: P, w :: vs, 0, m, nd, h1, h2, hk => by
    simp at h1 h2; subst h1; subst h2
    show bindC kindOf ((p, w) :: P.zip vs) m p = _
    unfold bindC
    rw [bindC_out fun v hv => (List.nodup_cons.mp nd).1 (List.of_mem_zip hv).1, if_neg hk]
    simp
  | p :: P, w :: vs, i + 1, m, nd, h1, h2, hk => by
    show bindC kindOf ((p, w) :: P.zip vs) m x = _
    unfold bindC
    exact bindC_get (i := i) (List.nodup_cons.mp nd).2 (by simpa using h1) (by simpa using h2) hk

/-- the names' values at the entry -/
def start (N : List Str) (vs : List V) : St := vs.map some ++ List.replicate (N.length - vs.length) none

/-- the context of a def's body, at its entry; an exception leaves the frame, then lies as CX says -/
def cxOf (CX : CXT) (P : Program) (w : World) (K : PySem.W.Frag) (mg : Str → Option Value) (base : Heap) (N : List Str) (qual : Str) (scope : Scope) (f : Addr) (cd : Value) (A : Around) (outer : List Env) (s : Shared) (H : Hp) (E : XK) : Cx where
  prog := P
  w := w
  K := K
  mg := mg
  base := base
  A := A.deeper (envOfC qual scope s.heap.objs.size f cd)
  N := N
  s_0 := s
  H_0 := H
  env := envOfC qual scope s.heap.objs.size f cd
  outer := outer
  stack := envOfC qual scope s.heap.objs.size f cd :: outer
  ex := []
  calm := true
  fn := fun _ => true
  pn := []
  xe := fun e s' => wpAny (model P w) (A.deeper (envOfC qual scope s.heap.objs.size f cd)) (leaving (envOfC qual scope s.heap.objs.size f cd) e) (fun _ s'' => CX outer H s E e s'') (fun e' s'' => CX outer H s E e' s'') s'

theorem cell_has {sc : Scope} {n : Nat} {x : Str} (h : sc.names.lookup x = some .cell) : ∃ c, (cellsFrom n sc.names []).lookup x = some c := by
  have q := PySem.W.cellsFrom_some sc.names n [] (.inl h)
  exact Option.isSome_iff_exists.mp q

theorem inv_start {CX : CXT} {P : Program} {w : World} {K : PySem.W.Frag} {mg : Str → Option Value} {base : Heap} {N ps : List Str} {qual : Str} {scope : Scope} {f : Addr} {cd : Value} {A : Around} {outer : List Env} {s s1 : Shared} {H : Hp} {E : XK} {us : List Value} {vs : List V}
    (S : FnScope N ps scope) (hd : A.handled = none) (e0 : Env0 P w K mg base A outer s H) (hl : vs.length = ps.length) (r : Vals vs us)
    (x : InCallC s s.heap.objs.size (bindL (envOfC qual scope s.heap.objs.size f cd).kindOf (ps.zip us) fun _ => none) (cellsFrom (s.heap.objs.size + 1) scope.names []) (bindC (envOfC qual scope s.heap.objs.size f cd).kindOf (ps.zip us) fun _ => none) s1) :
    Inv (cxOf CX P w K mg base N qual scope f cd A outer s H E) [] (start N vs) H s1 := by
  have hpl : ps.length ≤ N.length := by have := congrArg List.length S.pre; rw [List.length_take] at this; omega
  obtain ⟨h1, tk, rfl, hk⟩ := x.done
  have noA : ∀ b : Addr, b ∉ (cxOf CX P w K mg base N qual scope f cd A outer s H E).ex := fun b z => absurd (show b ∈ ([] : List Addr) from z) (by simp)
  refine ⟨⟨e0.mod, S.kind, rfl, rfl, Nat.le_refl _, fun y z c h1 h2 => ?_, fun y hy => ?_, fun y c _ h => ?_, fun _ => hd, Around.frames_deeper e0.frames, .inr ⟨rfl, rfl⟩, fun b z => absurd z (noA b), e0.bs, e0.bsz, fun b _ _ => noA b, fun b z => absurd z (noA b), e0.funs, e0.frf⟩,
    rfl, e0.bare, Un.kept hk, ⟨_, x.toInCall.ns, fun i y v h1 h2 h3 => ?_⟩, fun y c h => ⟨_, x.cell y c h⟩, e0.hok.fresh (Nat.le_refl _), fun y c h => ?_, fun p hp => absurd (show p ∈ ([] : List (Addr × Obj)) from hp) (by simp), e0.hok.kept hk, ?_⟩
  · exact name_of_addr x.apart (PySem.mem_of_lookup h1) (PySem.mem_of_lookup h2)
  · have hy : scope.names.lookup y = some .cell ∨ scope.names.lookup y = some .free := hy
    rcases hy with hy | hy
    · exact cell_has hy
    · exact absurd rfl (S.nofree _ (PySem.mem_of_lookup hy))
  · exact Nat.le_of_lt (x.above y c (PySem.mem_of_lookup h))
  · have hi : i < vs.length := by
      unfold start at h2
      by_cases hi : i < vs.length
      · exact hi
      · rw [List.getElem?_append_right (by simpa using hi)] at h2
        rw [List.getElem?_replicate] at h2
        split at h2 <;> cases h2
    have ha : vs[i]? = some v := by
      unfold start at h2
      rw [List.getElem?_append_left (by simpa using hi), List.getElem?_map] at h2
      cases e : vs[i]? with
      | none => rw [e] at h2; cases h2
      | some a => rw [e] at h2; cases h2; rfl
    obtain ⟨u, hu, rv⟩ := r.get ha
    have hp : ps[i]? = some y := by
      rw [← S.pre, List.getElem?_take_of_lt (by omega)]; exact h1
    have ndP : ps.Nodup := by rw [← S.pre]; exact S.nd.sublist (List.take_sublist _ _)
    refine ⟨u, rv, ?_⟩
    rcases S.par y (List.mem_of_getElem? hp) with k | k
    · exact .inl ⟨k, bindL_get ndP hp hu k⟩
    · obtain ⟨c, e⟩ := cell_has (n := s.heap.objs.size + 1) k
      refine .inr ⟨.inl k, c, e, ?_⟩
      have q := x.cell y c e
      rw [bindC_get ndP hp hu (by show scope.names.lookup y ≠ _; rw [k]; decide)] at q
      exact q
  · exact e0.hok.fresh (Nat.le_of_lt (x.above y c (PySem.mem_of_lookup h)))
  · unfold start
    show _ = N.length
    rw [List.length_append, List.length_map, List.length_replicate]
    omega

/-- THE RULE: a def (or a method) of the text, by its body. The body's reading t is chosen for each entry; it is run at the parameters' values -/
theorem fn_of {CX : CXT} {P : Program} {w : World} {K : PySem.W.Frag} {mg : Str → Option Value} {base : Heap} {k : Nat} {f : Addr} {name qual : Str} {params : Arguments} {body : List Stmt} {scope : Scope} {dV kV doc pm cdv ct oc : Value} {an od : Option Addr}
    {osl : Array (Option Value)} {N ps : List Str} {sp : Sp} (lk : K.lookup f = some ⟨oc, od, .func (PySem.W.fnOf name qual params body scope dV kV doc pm an cdv ct), osl⟩) (hcd : PySem.W.codeIn K cdv qual = true) (S : FnScope N ps scope)
    (len : ∀ vs H Q E, sp vs H Q E → vs.length = ps.length)
    (hbody : ∀ (A : Around) (outer : List Env) (s : Shared) (H : Hp) (vs : List V) (Q : VK) (E : XK), Room k (A.deeper (envOfC qual scope s.heap.objs.size f cdv)) → sp vs H Q E →
      ∃ t, PSs (cxOf CX P w K mg base N qual scope f cdv A outer s H E) body t ∧ t { nx := fun _ H' => Q .non H', rt := Q } (start N vs) H) :
    FnOk P w K mg base CX (k + 1) f (PySem.W.fnOf name qual params body scope dV kV doc pm an cdv ct) ps sp := by
  refine ⟨len, fun A outer s H args us vs Q E hr e0 hb r hsp => ?_⟩
  have hl := len _ _ _ _ hsp
  have KX : K.In s.heap := e0.mod.kin.keeps fun b o e => (e0.bs b o e).1
  have lim : s.heap.NoLimit := e0.mod.nolimit.keeps fun b o e => (e0.bs b o e).1
  have hkind : ∀ y ∈ ps.zip us, scope.names.lookup y.1 = some .local ∨ (scope.names.lookup y.1 = some .cell ∧ ((cellsFrom (s.heap.objs.size + 1) scope.names []).lookup y.1).isSome = true) := fun ⟨n, v⟩ hy => by
    rcases S.par n (List.of_mem_zip hy).1 with q | q
    · exact .inl q
    · exact .inr ⟨q, PySem.W.cellsFrom_some _ _ _ (.inl q)⟩
  refine codeAny_call_function hr.depth (KX _ _ lk) rfl S.co S.gen rfl (PySem.W.codeRec_of KX hcd) (hb _ _ _ _ ?_)
  refine wpAny_newFunctionEnv_cells S.kind hkind fun env he s1 x => ?_
  subst he
  refine ⟨lim.keeps x.toInCall.keep, codeAny_func ?_⟩
  obtain ⟨t, ht, hq⟩ := hbody A outer s H vs Q E (hr.deeper _) hsp
  have I : Inv (cxOf CX P w K mg base N qual scope f cdv A outer s H E) [] (start N vs) H s1 := inv_start S hr.hd e0 hl r x
  refine wpAny_mono (ht [] s1 (start N vs) H _ I hq) (fun fl s' hs => ?_) fun e s' hs => hs
  have fin : ∀ {σ' : St} {H' : Hp} {v : V} {u : Value}, Inv (cxOf CX P w K mg base N qual scope f cdv A outer s H E) [] σ' H' s' → RelV v u → Q v H' → CE outer P w H s Q u s' :=
    fun {σ' H' v u} J rv q => ⟨v, H', J.os, J.bare, J.base, J.hok, rv, q⟩
  cases fl with
  | ret u =>
    obtain ⟨v, σ', H', J, rv, q⟩ := hs
    exact fin J rv q
  | next =>
    obtain ⟨σ', H', J, q⟩ := hs
    exact fin (v := V.non) (u := Value.none) J rfl q
  | brk =>
    obtain ⟨_, _, _, q⟩ := hs
    exact False.elim q
  | cont =>
    obtain ⟨_, _, _, q⟩ := hs
    exact False.elim q
end L2

namespace L2
open PySem PySem.Spec PyProof.Rows
section
variable {X : Cx} {x : Str} {p pos : Pos} {e : Expr} {es : List Expr} {t : TA} {id T : String} {r : List V → Hp → VK → Prop}

def tCB (r : List V → Hp → VK → Prop) (t : TA) : TE := fun σ H Q => t σ H fun vs H1 => r vs H1 Q
/-- f(e, ..), f a built-in function -/
theorem pe_callB (hc : CallR X (.builtin id) r) (hg : Gl X x) (hm : X.mg x = none) (hv : bootBuiltins x = some (.builtin id)) (ha : PA X (e :: es) t) (hn : x ≠ "__name__" := by decide) (hdb : (x == ("__debug__" : Str)) = false := by decide)
    (he : starEach (e :: es) X.env = (false, eval e X.env) :: starEach es X.env := by rfl) (hpl : (backTo pos (starEach es X.env)).any (·.1) = false := by rfl) : PE X (.Call (.Name x p) (e :: es) [] pos) (tCB r t) := by
  intro pins s σ H Q I h
  refine wpAny_Call_Name_kw (ld_blt I hg hm hv ?_ hn hdb)
  exact PyProof.Rows.callWith_builtin1 (thn (ha pos pins s σ H _ I h) fun us s1 ⟨vs, H1, I1, r1, q1⟩ => hc pins s1 σ H1 vs us Q I1 r1 q1) he hpl
/-- T(e, ..), T a built-in type -/
theorem pe_callTy (hc : CallR X (.type T) r) (hg : Gl X x) (hm : X.mg x = none) (hv : bootBuiltins x = some (.type T)) (ha : PA X (e :: es) t) (hn : x ≠ "__name__" := by decide) (hdb : (x == ("__debug__" : Str)) = false := by decide)
    (he : starEach (e :: es) X.env = (false, eval e X.env) :: starEach es X.env := by rfl) (hpl : (backTo pos (starEach es X.env)).any (·.1) = false := by rfl) : PE X (.Call (.Name x p) (e :: es) [] pos) (tCB r t) := by
  intro pins s σ H Q I h
  refine wpAny_Call_Name_kw (ld_blt I hg hm hv ?_ hn hdb)
  exact PyProof.Rows.callWith_type1 (thn (ha pos pins s σ H _ I h) fun us s1 ⟨vs, H1, I1, r1, q1⟩ => hc pins s1 σ H1 vs us Q I1 r1 q1) he hpl
end
end L2

namespace HT
open PySem PyProof.Rows

/-- t < u of tuples of ints -/
def lexLt : List Int → List Int → Bool
  | [], [] => false
  | [], _ :: _ => true
  | _ :: _, [] => false
  | x :: xs, y :: ys => if x = y then lexLt xs ys else decide (x < y)
section
open PySem.SeqAt
open PySem.AutoSeq1 (wpAny_loadPart')
open PySem.MeetsSeq PySem.MeetsSeq2 PySem.MeetsSeq3

end

section
variable {prog : Program} {w : World} {A : Around} {E : Value → Shared → Prop} {s : Shared}

/-- t + u, t not empty -/
theorem cat_tup {t b : Addr} {vs ws : List Value} {Q : Value → Shared → Prop} (ht : IsTup s.heap t vs.toArray) (hb : IsTup s.heap b ws.toArray) (hv : vs ≠ [])
    (h1 : ws = [] → Q (.ref t) s) (h2 : ws ≠ [] → Q (.ref s.heap.objs.size) { s with heap := s.heap.push { cls := .type "tuple", data := .seq (vs ++ ws).toArray } })
    (hsz : vs.length + ws.length ≤ sizeLine) : wpAny (model prog w) A (binaryOp .Add (.ref t) (.ref b)) Q E s := by
  obtain ⟨⟨cls, dd, data, sl⟩, ho, hc, n, hd⟩ := id ht
  obtain ⟨⟨cls2, dd2, data2, sl2⟩, ho2, hc2, n2, hd2⟩ := id hb
  simp only at hc hd hc2 hd2
  subst hc hd hc2 hd2
  have e : vs.toArray ++ ws.toArray = (vs ++ ws).toArray := by simp
  by_cases hw : ws = []
  · exact concat_meets ⟨_, ho, rfl⟩ ⟨_, ho2, rfl⟩ noFill_tuple_add seq_tuple_add PySem.F.slot_tuple_add PySem.F.entry_tuple_add (PySem.F.args_tuple_add_2 _ _)
      (tuple_addW1 t b vs.toArray ws.toArray n n2 dd dd2 sl sl2 (by simpa using hv) (by simp [hw])) ⟨ho, ho2, h1 hw⟩
  · refine concat_meets ⟨_, ho, rfl⟩ ⟨_, ho2, rfl⟩ noFill_tuple_add seq_tuple_add PySem.F.slot_tuple_add PySem.F.entry_tuple_add (PySem.F.args_tuple_add_2 _ _)
      (tuple_addW2 t b vs.toArray ws.toArray n n2 dd dd2 sl sl2 (by simpa using hv) (by simpa using hw) (by rw [List.size_toArray, List.size_toArray]; exact hsz)) ⟨ho, ho2, ?_⟩
    rw [e]
    exact h2 hw

/-! ### t[a:b], not the whole -/
/-- a slice's bound as a place among n (d where it is left out) -/
def sIx (n d : Nat) : Option Int → Nat
  | none => d
  | some v => if v < 0 then (v + (n : Int)).toNat else min v.toNat n
theorem sIx_none (n d : Nat) : sIx n d none = d := rfl
theorem sIx_nat (n d k : Nat) : sIx n d (some (k : Int)) = min k n := by
  show (if (k : Int) < 0 then ((k : Int) + (n : Int)).toNat else min (k : Int).toNat n) = min k n
  rw [if_neg (by omega), Int.toNat_natCast]
theorem sIx_le (n d : Nat) (hd : d ≤ n) (o : Option Int) : sIx n d o ≤ n := by
  cases o with
  | none => exact hd
  | some v =>
    show (if v < 0 then (v + (n : Int)).toNat else min v.toNat n) ≤ n
    by_cases hv : v < 0
    · rw [if_pos hv]; omega
    · rw [if_neg hv]; exact Nat.min_le_right _ _
theorem clip_eq (v : Int) (n d : Nat) : (if v < 0 then max (v + (n : Int)) 0 else min v (n : Int)) = ((sIx n d (some v) : Nat) : Int) := by
  show (if v < 0 then max (v + (n : Int)) 0 else min v (n : Int)) = (((if v < 0 then (v + (n : Int)).toNat else min v.toNat n) : Nat) : Int)
  by_cases hv : v < 0
  · simp only [if_pos hv]; omega
  · simp only [if_neg hv]; omega
theorem adjust_gen (lo hi : Option Int) (n : Nat) : Builtin.Slice.sliceAdjust lo hi 1 (n : Int) = (((sIx n 0 lo : Nat) : Int), ((sIx n n hi : Nat) : Int)) := by
  have h1 : ¬ ((1 : Int) < 0) := by omega
  unfold Builtin.Slice.sliceAdjust
  simp only [h1, if_false]
  refine Prod.ext ?_ ?_
  · cases lo with
    | none => rfl
    | some v => exact clip_eq v n 0
  · cases hi with
    | none => rfl
    | some v => exact clip_eq v n n
theorem places_gen (i j : Nat) : Builtin.Slice.slicePlaces (i : Int) (j : Int) 1 = j - i := by
  unfold Builtin.Slice.slicePlaces
  have h1 : (1 : Int) > 0 := by omega
  simp only [h1, if_true, Int.ediv_one]
  split <;> omega
theorem slicePart_ {v : Value} {o : Option Int} {Q : Option Int → Shared → Prop} (p : IsPart v o) (h : Q o s) : wpAny (model prog w) A (Builtin.Slice.slicePartIndex v) Q E s := by
  cases p with
  | none => exact slicePart_none h
  | int i t => exact slicePart_int h
theorem sliceApplied_gen {sl : Addr} {vl vu : Value} {lo hi : Option Int} {n : Nat} {Q : Int × Int × Nat → Shared → Prop} (hs : s.heap.IsSliceOf sl vl vu .none) (pl : IsPart vl lo) (pu : IsPart vu hi)
    (h : Q (((sIx n 0 lo : Nat) : Int), 1, sIx n n hi - sIx n 0 lo) s) : wpAny (model prog w) A (Builtin.Slice.sliceApplied (.ref sl) (pure (n : Int))) Q E s := by
  obtain ⟨os, hos, hcs, hds⟩ := id hs
  unfold Builtin.Slice.sliceApplied Builtin.Slice.sliceFields
  refine wpAny_bind (wpAny_bind (wpAny_field hos hds (x := vl) rfl (wpAny_bind (wpAny_field hos hds (x := vu) rfl (wpAny_bind (wpAny_field hos hds (x := .none) rfl (wpAny_pure ?_)))))))
  refine wpAny_bind (slicePart_none ?_)
  show wpAny _ _ (if ((1 : Int) == 0) = true then _ else _) _ _ s
  rw [if_neg (by decide)]
  refine wpAny_bind (slicePart_ pl (wpAny_bind (slicePart_ pu (wpAny_bind (wpAny_pure ?_)))))
  show wpAny _ _ (match Builtin.Slice.sliceAdjust lo hi 1 (n : Int) with | (lo, hi) => pure (lo, (1 : Int), Builtin.Slice.slicePlaces lo hi 1)) _ _ s
  rw [adjust_gen lo hi n]
  show wpAny _ _ (pure (((sIx n 0 lo : Nat) : Int), (1 : Int), Builtin.Slice.slicePlaces ((sIx n 0 lo : Nat) : Int) ((sIx n n hi : Nat) : Int) 1)) _ _ s
  rw [places_gen]
  exact wpAny_pure h
theorem pick_gen (xs : Array Value) (i k : Nat) : ((List.range k).filterMap fun (m : Nat) => xs[((i : Int) + (m : Int) * 1).toNat]?).toArray = ((xs.toList.drop i).take k).toArray := by
  have e : (fun (m : Nat) => xs[((i : Int) + (m : Int) * 1).toNat]?) = fun m => xs[i + m]? := by
    funext m
    have : ((i : Int) + (m : Int) * 1).toNat = i + m := by omega
    rw [this]
  rw [e]
  have := pick_run xs i k
  rw [List.filterMap_map] at this
  have e2 : ((fun x => xs[x]?) ∘ fun x => i + x) = fun m => xs[i + m]? := rfl
  rw [e2] at this
  rw [this]

theorem getItem_tuple_cut {t sl : Addr} {items : Array Value} {vl vu : Value} {lo hi : Option Int} {Q : Value → Shared → Prop} (ht : IsTup s.heap t items) (hs : s.heap.IsSliceOf sl vl vu .none) (pl : IsPart vl lo) (pu : IsPart vu hi)
    (hw : ¬ (sIx items.size 0 lo = 0 ∧ sIx items.size items.size hi = items.size))
    (h : Q (.ref s.heap.objs.size) { s with heap := s.heap.push { cls := .type "tuple", data := .seq ((items.toList.drop (sIx items.size 0 lo)).take (sIx items.size items.size hi - sIx items.size 0 lo)).toArray } })
    (hsz : items.size ≤ sizeLine) : wpAny (model prog w) A (getItem (.ref t) (.ref sl)) Q E s := by
  have htake : sizeOk (.seq ((items.toList.drop (sIx items.size 0 lo)).take (sIx items.size items.size hi - sIx items.size 0 lo)).toArray) := by
    show ((items.toList.drop (sIx items.size 0 lo)).take (sIx items.size items.size hi - sIx items.size 0 lo)).toArray.size ≤ sizeLine
    rw [List.size_toArray, List.length_take, List.length_drop, Array.length_toList]
    omega
  have hj : sIx items.size items.size hi ≤ items.size := sIx_le _ _ (Nat.le_refl _) hi
  obtain ⟨os, hos, hcs, hds⟩ := id hs
  have hTs : s.TypeIs (.ref sl) "slice" := ⟨os, hos, hcs⟩
  unfold getItem
  try with_reducible refine wpAny_holding ?_
  first | refine wpAny_bind (wpAny_pure ?_) | skip
  refine wpAny_bind (wpAny_sequenceKey ht.typeIs (by decide) ?_)
  refine wpAny_bind (wpAny_callSpecial?_slot (name := Str.ofString "__getitem__") ht.typeIs PyProof.Rows.slot_tuple_getitem
    (wpAny_call_entry PyProof.Rows.slot_tuple_getitem ht.typeIs entry_tuple_getitem ?_ (args_tuple_getitem _ _)))
  show wpAny _ _ (Builtin.Tuple.tupleItemsOf (.ref t) >>= _) _ _ s
  refine wpAny_bind (tupleItemsOf_ ht ?_)
  refine wpAny_bind (wpAny_typeOf hTs ?_)
  rw [if_pos (by decide)]
  refine wpAny_bind (sliceApplied_gen hs pl pu ?_)
  have hno : ¬ ((((sIx items.size 0 lo : Nat) : Int) == 0 && (1 : Int) == 1 && (sIx items.size items.size hi - sIx items.size 0 lo) == items.size) = true) := by
    intro q
    rw [Bool.and_eq_true, Bool.and_eq_true] at q
    have q1 : ((sIx items.size 0 lo : Nat) : Int) = 0 := eq_of_beq q.1.1
    have q2 : sIx items.size items.size hi - sIx items.size 0 lo = items.size := eq_of_beq q.2
    exact hw ⟨by omega, by omega⟩
  show wpAny _ _ (if (((sIx items.size 0 lo : Nat) : Int) == 0 && (1 : Int) == 1 && (sIx items.size items.size hi - sIx items.size 0 lo) == items.size) = true then _ else _) _ _ s
  rw [if_neg hno, pick_gen]
  first
    | exact wpAny_bind (m := Builtin.Tuple.tupleExact _) (wpAny_newObj_type (wpAny_pure ⟨_, rfl, wpAny_pure h⟩) htake)
    | exact wpAny_bind (m := Builtin.Tuple.tupleExact _) (wpAny_newObj_type (wpAny_bind (wpAny_pure (wpAny_pure ⟨_, rfl, wpAny_pure h⟩))) htake)
    | exact wpAny_bind (wpAny_bind (m := Builtin.Tuple.tupleExact _) (wpAny_newObj_type (wpAny_pure (wpAny_pure ⟨_, rfl, wpAny_pure h⟩)) htake))
    | exact wpAny_bind (wpAny_bind (m := Builtin.Tuple.tupleExact _) (wpAny_newObj_type (wpAny_pure ⟨_, rfl, wpAny_pure h⟩) htake))
end
end HT

namespace L2
open PySem PySem.Spec PyProof.Rows

/-! ### the parts of a slice -/
abbrev TO := St → Hp → (Option Int → Hp → Prop) → Prop
/-- a slice's part (left out, or an int) -/
def PO (X : Cx) (e : Option Expr) (t : TO) : Prop :=
  ∀ (pins : List (Addr × Obj)) (s : Shared) (σ : St) (H : Hp) (Q : Option Int → Hp → Prop), Inv X pins σ H s → t σ H Q →
    wpAny (model X.prog X.w) X.A (evalPart e X.env) (fun u s' => ∃ o H', Inv X pins σ H' s' ∧ IsPart u o ∧ Q o H') X.xe s
def tNoPart : TO := fun _ H Q => Q none H
def tPart (t : TE) : TO := fun σ H Q => t σ H fun x H1 => ∃ i, x = .int i ∧ Q (some i) H1

section
variable {X : Cx} {e : Expr} {te : TE} {lo hi : Option Expr} {tl th : TO} {pos p2 : Pos}

theorem po_none : PO X none tNoPart := by
  intro pins s σ H Q I h
  rw [evalPart_none]
  exact wpAny_pure ⟨none, H, I, .none, h⟩
theorem po_some (h : PE X e te) : PO X (some e) (tPart te) := by
  intro pins s σ H Q I hw
  rw [evalPart_some]
  refine thn (h pins s σ H _ I hw) fun u s1 ⟨x, H1, I1, r1, q1⟩ => ?_
  obtain ⟨i, rfl, q⟩ := q1
  obtain ⟨t, rfl⟩ := r1
  exact ⟨some i, H1, I1, .int i t, q⟩

/-- what a slice of a value is, by values: the slice object stands at sl -/
def SlR (X : Cx) (r : V → Option Int → Option Int → Hp → VK → Prop) : Prop :=
  ∀ (pins : List (Addr × Obj)) (s : Shared) (σ : St) (H : Hp) (x : V) (v vl vu : Value) (lo hi : Option Int) (sl : Addr) (Q : VK), Inv X pins σ H s → RelV x v → s.heap.IsSliceOf sl vl vu .none → IsPart vl lo → IsPart vu hi → r x lo hi H Q →
    ∃ T id, typeLookup (.type T) "__getitem__" = pure (some (.builtin id)) ∧ s.TypeIs v T ∧ wpAny (model X.prog X.w) X.A (getItem v (.ref sl)) (EP X pins σ Q) X.xe s
def tSl (r : V → Option Int → Option Int → Hp → VK → Prop) (te : TE) (tl th : TO) : TE := fun σ H Q => te σ H fun x H1 => tl σ H1 fun l H2 => th σ H2 fun u H3 => r x l u H3 Q
/-- a[lo:hi], any a -/
theorem pe_slice {r : V → Option Int → Option Int → Hp → VK → Prop} (hr : SlR X r) (he : PE X e te) (hl : PO X lo tl) (hu : PO X hi th) : PE X (.Subscript e (.Slice lo hi none p2) pos) (tSl r te tl th) := by
  intro pins s σ H Q I h
  refine Subscript_ (thn (he pins s σ H _ I h) fun v s1 ⟨x, H1, I1, r1, q1⟩ => ?_)
  refine wpAny_Slice (thn (hl pins s1 σ H1 _ I1 q1) fun vl s2 ⟨l, H2, I2, pl, q2⟩ => thn (hu pins s2 σ H2 _ I2 q2) fun vu s3 ⟨u, H3, I3, pu, q3⟩ => ?_)
  rw [evalPart_none]
  refine wpAny_pure ?_
  have I4 : Inv X pins σ H3 { s3 with heap := s3.heap.push { cls := .type "slice", data := .fields #[vl, vu, .none] } } := I3.kept (t' := s3.toks) fun b ob q => Heap.get?_push_of_some _ q
  obtain ⟨T, id, hT, ht, hg⟩ := hr pins { s3 with heap := s3.heap.push { cls := .type "slice", data := .fields #[vl, vu, .none] } } σ H3 x v vl vu l u s3.heap.objs.size Q I4 r1 (Heap.IsSliceOf.new ..) pl pu q3
  show wpAny (model X.prog X.w) X.A (subscriptTail e (.Slice lo hi none p2) v (.ref s3.heap.objs.size)) (EP X pins σ Q) X.xe { s3 with heap := s3.heap.push { cls := .type "slice", data := .fields #[vl, vu, .none] } }
  exact tail_any (ops := [.ref s3.heap.objs.size, v]) ht hT hg (by with_unfolding_all rfl)

/-- the items of xs[lo:hi] -/
def cutV (xs : List V) (lo hi : Option Int) : List V := (xs.drop (HT.sIx xs.length 0 lo)).take (HT.sIx xs.length xs.length hi - HT.sIx xs.length 0 lo)
theorem cutV_length (xs : List V) (lo hi : Option Int) : (cutV xs lo hi).length ≤ xs.length := by
  unfold cutV
  rw [List.length_take, List.length_drop]
  omega
/-- t[lo:hi], not the whole of it (the whole would be t itself) -/
def rSlT (K : PySem.W.Frag) : V → Option Int → Option Int → Hp → VK → Prop := fun x lo hi H Q => ∃ a xs, x = .ref a ∧ SqT K H a xs ∧
  ¬ (HT.sIx xs.length 0 lo = 0 ∧ HT.sIx xs.length xs.length hi = xs.length) ∧ ∀ p, H p = none → Q (.ref p) (upd H p (.tup (cutV xs lo hi)))
theorem sl_tup : SlR X (rSlT X.K) := by
  intro pins s σ H x v vl vu lo hi sl Q I rx hs pl pu h
  obtain ⟨a, xs, rfl, hx, hw, q⟩ := h
  cases rx
  obtain ⟨its, r, ht, hz⟩ := I.tuple hx
  have hlen : its.toArray.size = xs.length := by rw [List.size_toArray]; exact r.length.symm
  refine ⟨"tuple", _, PyProof.Rows.slot_tuple_getitem.lookup, ht.typeIs, ?_⟩
  refine HT.getItem_tuple_cut ht hs pl pu (by rw [hlen]; exact hw) ?_ (by rw [hlen]; exact hz)
  rw [hlen]
  refine ⟨.ref s.heap.objs.size, _, I.laid (t' := s.toks) (o := .tup (cutV xs lo hi)) (fun b ob q => Heap.get?_push_of_some _ q) (Nat.le_refl _) ?_, rfl, q _ (I.hok.fresh (Nat.le_refl _))⟩
  exact ⟨Nat.le_trans (cutV_length xs lo hi) hz, _, (r.drop (HT.sIx xs.length 0 lo)).take (HT.sIx xs.length xs.length hi - HT.sIx xs.length 0 lo), IsTup.new _ _⟩

/-! ### t < u, t + u -/
def rLtT (K : PySem.W.Frag) : R2 := fun x y H Q => ∃ a b ns ms, x = .ref a ∧ y = .ref b ∧ SqT K H a (ns.map V.int) ∧ SqT K H b (ms.map V.int) ∧ Q (.bl (HT.lexLt ns ms)) H
/-- t + u, t not empty: u empty gives t itself -/
def rCatT (K : PySem.W.Frag) : R2 := fun x y H Q => ∃ a b xs ys, x = .ref a ∧ y = .ref b ∧ SqT K H a xs ∧ SqT K H b ys ∧ xs ≠ [] ∧ xs.length + ys.length ≤ sizeLine ∧
  (ys = [] → Q (.ref a) H) ∧ (ys ≠ [] → ∀ p, H p = none → Q (.ref p) (upd H p (.tup (xs ++ ys))))
theorem Vals.nil_iff {xs : List V} {us : List Value} (r : Vals xs us) : us = [] ↔ xs = [] := by
  cases r with
  | nil => simp
  | cons _ _ => simp
theorem op_catT : OpR X (binaryOp .Add) (rCatT X.K) := by
  intro pins s σ H x y v u Q I rx ry h
  obtain ⟨a, b, xs, ys, rfl, rfl, ha, hb, hx, hz, q1, q2⟩ := h
  cases rx
  cases ry
  obtain ⟨its, r1, p1, _⟩ := I.tuple ha
  obtain ⟨its2, r2, p2, _⟩ := I.tuple hb
  refine HT.cat_tup p1 p2 (fun z => hx (r1.nil_iff.mp z)) (fun z => ⟨.ref a, H, I, rfl, q1 (r2.nil_iff.mp z)⟩) (fun z => ?_) (by rw [← r1.length, ← r2.length]; exact hz)
  refine ⟨.ref s.heap.objs.size, _, I.laid (t' := s.toks) (o := .tup (xs ++ ys)) (fun b ob q => Heap.get?_push_of_some _ q) (Nat.le_refl _) ?_, rfl, q2 (fun w => z (r2.nil_iff.mpr w)) _ (I.hok.fresh (Nat.le_refl _))⟩
  exact ⟨by rw [List.length_append]; exact hz, _, r1.append r2, IsTup.new _ _⟩
end
end L2

namespace L2
open PySem PySem.Spec PyProof.Rows

/-! ### places -/
/-- the place that an index of any sign means -/
def ixN (n : Nat) (i : Int) : Option Nat := if 0 ≤ i then (if i < n then some i.toNat else none) else if -(n : Int) ≤ i then some (i + n).toNat else none
def atI {α : Type} (xs : List α) (i : Int) : Option α := (ixN xs.length i).bind fun j => xs[j]?
theorem ixN_seq {n : Nat} {i : Int} {j : Nat} (h : ixN n i = some j) : seqIndex? i n = some j ∧ j < n ∧ -(n : Int) ≤ i ∧ i < n := by
  unfold ixN at h
  by_cases h0 : 0 ≤ i
  · rw [if_pos h0] at h
    by_cases h1 : i < n
    · rw [if_pos h1] at h
      have e : i.toNat = j := Option.some.inj h
      exact ⟨by rw [seqIndex_of h0 h1, e], by omega, by omega, h1⟩
    · rw [if_neg h1] at h; cases h
  · rw [if_neg h0] at h
    by_cases h1 : -(n : Int) ≤ i
    · rw [if_pos h1] at h
      have e : (i + n).toNat = j := Option.some.inj h
      exact ⟨by rw [seqIndex_neg (by omega) h1, e], by omega, h1, by omega⟩
    · rw [if_neg h1] at h; cases h
theorem atI_get {α : Type} {xs : List α} {i : Int} {v : α} (h : atI xs i = some v) : ∃ j, seqIndex? i xs.length = some j ∧ xs[j]? = some v ∧ j < xs.length ∧ -(xs.length : Int) ≤ i ∧ i < xs.length := by
  unfold atI at h
  cases e : ixN xs.length i with
  | none => rw [e] at h; cases h
  | some j =>
    rw [e] at h
    obtain ⟨h1, h2, h3, h4⟩ := ixN_seq e
    exact ⟨j, h1, h, h2, h3, h4⟩
theorem atI_nat {α : Type} {xs : List α} {j : Nat} {v : α} (h : xs[j]? = some v) : atI xs (j : Int) = some v := by
  have hj : j < xs.length := (List.getElem?_eq_some_iff.mp h).1
  have e : ixN xs.length (j : Int) = some j := by
    unfold ixN
    rw [if_pos (by omega), if_pos (by omega)]; simp
  unfold atI; rw [e]; exact h
/-! ### what may be subscripted -/
/-- what stands as an index of a plain subscript -/
def PlainIx (b : Expr) : Prop := ∀ o i, subscripted b false o i = operate [o, i] (getItem o i)
/-- a subscript by values -/
def IxR (X : Cx) (r : R2) : Prop :=
  ∀ (value slice : Expr) (pins : List (Addr × Obj)) (s : Shared) (σ : St) (H : Hp) (x y : V) (v u : Value) (Q : VK), Inv X pins σ H s → RelV x v → RelV y u → r x y H Q →
    subscripted slice false v u = operate [v, u] (getItem v u) → wpAny (model X.prog X.w) X.A (subscriptTail value slice v u) (EP X pins σ Q) X.xe s
/-- a call of a builtin's method by values: the receiver, the arguments -/
def MtR (X : Cx) (id : String) (r : V → List V → Hp → VK → Prop) : Prop :=
  ∀ (pins : List (Addr × Obj)) (s : Shared) (σ : St) (H : Hp) (x : V) (xs : List V) (v : Value) (us : List Value) (Q : VK), Inv X pins σ H s → RelV x v → Vals xs us → r x xs H Q →
    wpAny (model X.prog X.w) X.A (call (.builtin id) (v :: us)) (EP X pins σ Q) X.xe s
section
variable {X : Cx} {a b : Expr} {ta tb : TE} {pos : Pos}
/-- a[b] -/
theorem pe_ix {r : R2} (hr : IxR X r) (ha : PE X a ta) (hb : PE X b tb) (hs : PlainIx b) : PE X (.Subscript a b pos) (tOp r ta tb) := by
  intro pins s σ H Q I h
  exact Subscript_ (binT ha hb I h fun v u s2 x y H2 I2 rx ry q => hr a b pins s2 σ H2 x y v u Q I2 rx ry q (hs _ _))

def rIxL (K : PySem.W.Frag) : R2 := fun x y H Q => ∃ p xs i v, x = .ref p ∧ y = .int i ∧ SqL K H p xs ∧ atI xs i = some v ∧ Q v H
def rIxT (K : PySem.W.Frag) : R2 := fun x y H Q => ∃ p xs i v, x = .ref p ∧ y = .int i ∧ SqT K H p xs ∧ atI xs i = some v ∧ Q v H
def rIxS : R2 := fun x y H Q => ∃ z i c, x = .str z ∧ y = .int i ∧ z.length ≤ sizeLine ∧ atI z.cps.toList i = some c ∧ Q (.str ⟨#[c]⟩) H
theorem ix_list : IxR X (rIxL X.K) := by
  intro value slice pins s σ H x y v u Q I rx ry h hs
  obtain ⟨p, xs, i, z, rfl, rfl, hq, he, q⟩ := h
  cases rx
  obtain ⟨t, rfl⟩ := ry
  obtain ⟨its, r, pl, hz⟩ := I.list hq
  obtain ⟨j, h1, h2, h3, h4, h5⟩ := atI_get he
  obtain ⟨w, ew, rw'⟩ := r.get h2
  have hl := r.length
  have hn := line63
  have fin : EP X pins σ Q w s := ⟨z, H, I, rw', q⟩
  by_cases h0 : 0 ≤ i
  · have hj : i.toNat = j := by
      rw [seqIndex_of h0 h5] at h1
      exact Option.some.inj h1
    exact item_listR pl.isList h0 (by omega) (by rw [hj]; simpa using ew) fin hs
  · have hj : (i + (its.toArray.size : Int)).toNat = j := by
      rw [seqIndex_neg (by omega) h4] at h1
      rw [List.size_toArray, ← hl]
      exact Option.some.inj h1
    exact subscriptTail_builtinR (x := w) pl.isList.typeIs slot_list_getitem.lookup
      (wpAny_getItem_list_neg (Q := fun r s' => r = w ∧ EP X pins σ Q r s') pl.isList (by omega) (by rw [List.size_toArray] <;> omega) (by omega) (by rw [hj]; simpa using ew) ⟨rfl, fin⟩) hs
theorem ix_tup : IxR X (rIxT X.K) := by
  intro value slice pins s σ H x y v u Q I rx ry h hs
  obtain ⟨p, xs, i, z, rfl, rfl, hq, he, q⟩ := h
  cases rx
  obtain ⟨t, rfl⟩ := ry
  obtain ⟨its, r, pl, hz⟩ := I.tuple hq
  obtain ⟨j, h1, h2, h3, h4, h5⟩ := atI_get he
  obtain ⟨w, ew, rw'⟩ := r.get h2
  have hl := r.length
  have hn := line63
  have fin : EP X pins σ Q w s := ⟨z, H, I, rw', q⟩
  exact subscriptTail_builtinR (x := w) pl.typeIs slot_tuple_getitem.lookup
    (getItem_tuple (j := j) (Q := fun r s' => r = w ∧ EP X pins σ Q r s') pl (by omega) (by omega) (by rw [List.size_toArray, ← hl]; exact h1) (by simpa using ew) ⟨rfl, fin⟩) hs
theorem ix_str : IxR X rIxS := by
  intro value slice pins s σ H x y v u Q I rx ry h hs
  obtain ⟨z, i, c, rfl, rfl, hz, he, q⟩ := h
  obtain ⟨t, rfl⟩ := rx
  obtain ⟨t', rfl⟩ := ry
  obtain ⟨j, h1, h2, h3, h4, h5⟩ := atI_get he
  have hl : z.cps.toList.length = z.length := by simp [Str.length]
  rw [hl] at h1 h4 h5
  have hn := line63
  exact tail_any (typeIs_str s z t) slot_str_getitem.lookup (getItem_str (c := c) (by
    have e1 : decide (i < -(2 ^ 63 : Int)) = false := decide_eq_false (by omega)
    have e2 : decide (i ≥ 2 ^ 63) = false := decide_eq_false (by omega)
    rw [e1, e2, Bool.or_false]) (by rw [h1]; simpa using h2) ⟨.str ⟨#[c]⟩, H, I.tok _, ⟨_, rfl⟩, q⟩) hs
/-- list, tuple or str -/
def rIx (K : PySem.W.Frag) : R2 := fun x y H Q => rIxL K x y H Q ∨ rIxT K x y H Q ∨ rIxS x y H Q
/-! ### xs[i] = v, any sign -/
/-- the list's object behind a store -/
theorem mapSeq_set (its : List Value) (n j : Nat) (u : Value) : Obj.mapSeq (·.setIfInBounds j u) { cls := .type "list", data := .seq its.toArray n } = { cls := .type "list", data := .seq (its.set j u).toArray n } := by
  simp [Obj.mapSeq]
theorem Inv.lst {pins : List (Addr × Obj)} {σ : St} {H : Hp} {s : Shared} {p : Addr} {xs : List V} (I : Inv X pins σ H s) (h : H p = some (.lst xs)) :
    ∃ (its : List Value) (n : Nat), Vals xs its ∧ s.heap.get? p = some { cls := .type "list", data := .seq its.toArray n } ∧ xs.length ≤ sizeLine := by
  obtain ⟨z, its, n, r, e⟩ := I.hok p _ h
  exact ⟨its, n, r, e, z⟩
/-- the list at p is written by an update of its object -/
theorem Inv.lstUpd {pins : List (Addr × Obj)} {σ : St} {H : Hp} {s : Shared} {p : Addr} {xs ys : List V} {its its' : List Value} {n n' : Nat} {f : Obj → Obj} (I : Inv X pins σ H s) (h : H p = some (.lst xs))
    (ho : s.heap.get? p = some { cls := .type "list", data := .seq its.toArray n }) (hf : f { cls := .type "list", data := .seq its.toArray n } = { cls := .type "list", data := .seq its'.toArray n' }) (r : Vals ys its') (hz : ys.length ≤ sizeLine) (t : Nat) :
    Inv X pins σ (upd H p (.lst ys)) { s with heap := s.heap.update p f, toks := t } := by
  have e : (s.heap.update p f).get? p = some { cls := .type "list", data := .seq its'.toArray n' } := by
    rw [Heap.get?_update_self f ho (by rw [hf] <;> rfl), hf]
  refine I.write (x := p) (e := p) (by rw [h]; trivial) (.inl rfl) (fun b u hb q => (Heap.get?_update_other _ _ (Ne.symm hb)).trans q) ⟨_, e⟩ ?_
  exact ⟨hz, its', n', r, e⟩
def rSetL : V → V → V → Hp → (Hp → Prop) → Prop := fun o i v H Q => ∃ p xs k j, o = .ref p ∧ i = .int k ∧ H p = some (.lst xs) ∧ ixN xs.length k = some j ∧ Q (upd H p (.lst (xs.set j v)))
theorem set_list : PSet X rSetL := by
  intro pins s σ H o i v ov iv u Q I ro ri rv h
  obtain ⟨p, xs, k, j, rfl, rfl, hp, hj, q⟩ := h
  cases ro
  obtain ⟨t, rfl⟩ := ri
  obtain ⟨its, n, r, ho, hz⟩ := I.lst hp
  obtain ⟨h1, h2, h3, h4⟩ := ixN_seq hj
  have hl := r.length
  have hn := line63
  have I' : Inv X pins σ (upd H p (.lst (xs.set j v))) { s with heap := s.heap.update p (Obj.mapSeq (·.setIfInBounds j u)) } :=
    I.lstUpd hp ho (mapSeq_set its n j u) (r.set rv j) (by rw [List.length_set]; exact hz) s.toks
  by_cases h0 : 0 ≤ k
  · have hk : k.toNat = j := by
      rw [seqIndex_of h0 h4] at h1
      exact Option.some.inj h1
    exact PySem.W.ki_setAt ho h0 (by omega) (by rw [List.size_toArray, ← hl]; exact h4) (by rw [hk]; exact ⟨_, I', q⟩)
  · have hk : (k + (its.toArray.size : Int)).toNat = j := by
      rw [seqIndex_neg (by omega) h3] at h1
      rw [List.size_toArray, ← hl]
      exact Option.some.inj h1
    exact PySem.W.ki_setBack ho (by omega) (by rw [List.size_toArray, ← hl]; exact h3) (by omega) (by rw [hk]; exact ⟨_, I', q⟩)

/-! ### slices -/
theorem slice_bounds (lo hi : Option Int) (n : Nat) : (sliceBounds lo hi none n).1 = ((HT.sIx n 0 lo : Nat) : Int) ∧ (sliceBounds lo hi none n).2.1 = ((HT.sIx n n hi : Nat) : Int) ∧ (sliceBounds lo hi none n).2.2 = 1 := by
  refine ⟨?_, ?_, rfl⟩
  · cases lo with
    | none => simp [sliceBounds, HT.sIx]
    | some i =>
      simp only [sliceBounds, HT.sIx, Option.getD_none, show (1 : Int) > 0 by decide, if_true]
      by_cases h : i < 0
      · simp only [h, if_true] <;> omega
      · simp only [h, if_false] <;> omega
  · cases hi with
    | none => simp [sliceBounds, HT.sIx]
    | some i =>
      simp only [sliceBounds, HT.sIx, Option.getD_none, show (1 : Int) > 0 by decide, if_true]
      by_cases h : i < 0
      · simp only [h, if_true] <;> omega
      · simp only [h, if_false] <;> omega
theorem slicePick_cut (its : List Value) (lo hi : Option Int) : slicePick its.toArray lo hi none = ((its.drop (HT.sIx its.length 0 lo)).take (HT.sIx its.length its.length hi - HT.sIx its.length 0 lo)).toArray := by
  obtain ⟨h1, h2, h3⟩ := slice_bounds lo hi its.toArray.size
  unfold slicePick
  rw [h1, h2, h3]
  simp only [sliceRange_one, pick_run, List.size_toArray] <;> rfl
/-- xs[lo:hi] of a list: a new list -/
def rSlL (K : PySem.W.Frag) : V → Option Int → Option Int → Hp → VK → Prop := fun x lo hi H Q => ∃ a xs, x = .ref a ∧ SqL K H a xs ∧ ∀ p, H p = none → Q (.ref p) (upd H p (.lst (cutV xs lo hi)))
theorem sl_list : SlR X (rSlL X.K) := by
  intro pins s σ H x v vl vu lo hi sl Q I rx hs pl pu h
  obtain ⟨a, xs, rfl, hx, q⟩ := h
  cases rx
  obtain ⟨its, r, ht, hz⟩ := I.list hx
  have hlen := r.length
  refine ⟨"list", _, slot_list_getitem.lookup, ht.isList.typeIs, ?_⟩
  refine wpAny_getItem_list_slice ht.isList hs pl pu .none (by simp) ?_ (by rw [List.size_toArray] <;> omega)
  rw [slicePick_cut, ← hlen]
  refine ⟨.ref s.heap.objs.size, _, I.laid (t' := s.toks) (o := .lst (cutV xs lo hi)) (fun b ob q => Heap.get?_push_of_some _ q) (Nat.le_refl _) ?_, rfl, q _ (I.hok.fresh (Nat.le_refl _))⟩
  exact ⟨Nat.le_trans (cutV_length xs lo hi) hz, _, 0, (r.drop (HT.sIx xs.length 0 lo)).take (HT.sIx xs.length xs.length hi - HT.sIx xs.length 0 lo), Heap.get?_push_size _ rfl⟩

/-! ### in, not in: flat items -/
def flatV : V → Bool
  | .non => true
  | .bl _ => true
  | .int _ => true
  | .str _ => true
  | _ => false
/-- == of flat values -/
def eqV : V → V → Bool
  | .non, .non => true
  | .bl a, .bl b => a == b
  | .bl a, .int b => (if a then 1 else 0) == b
  | .int a, .bl b => a == (if b then 1 else 0)
  | .int a, .int b => a == b
  | .str a, .str b => a == b
  | _, _ => false
theorem eqAt_V {A : Around} {s : Shared} {y x : V} {u v : Value} (ry : RelV y u) (rx : RelV x v) (fy : flatV y = true) (fx : flatV x = true) : SeqAt.EqAt A s u v (eqV y x) := by
  cases y with
  | non =>
    cases ry
    cases x with
    | non => cases rx; exact SeqAt.EqAt.same _
    | bl b => cases rx; exact SeqAt.EqAt.none_bool b
    | int b => obtain ⟨t, rfl⟩ := rx; exact SeqAt.EqAt.none_int b t
    | str b => obtain ⟨t, rfl⟩ := rx; exact SeqAt.EqAt.none_str b t
    | _ => exact absurd (show false = true from fx) Bool.false_ne_true
  | bl a =>
    cases ry
    cases x with
    | non => cases rx; exact SeqAt.EqAt.bool_none a
    | bl b => cases rx; exact SeqAt.EqAt.bool_bool a b
    | int b => obtain ⟨t, rfl⟩ := rx; exact SeqAt.EqAt.bool_int a b t
    | str b => obtain ⟨t, rfl⟩ := rx; exact SeqAt.EqAt.bool_str a b t
    | _ => exact absurd (show false = true from fx) Bool.false_ne_true
  | int a =>
    obtain ⟨t', rfl⟩ := ry
    cases x with
    | non => cases rx; exact SeqAt.EqAt.int_none a t'
    | bl b => cases rx; exact SeqAt.EqAt.int_bool a t' b
    | int b => obtain ⟨t, rfl⟩ := rx; exact SeqAt.EqAt.int_int a t' b t
    | str b => obtain ⟨t, rfl⟩ := rx; exact SeqAt.EqAt.int_str a t' b t
    | _ => exact absurd (show false = true from fx) Bool.false_ne_true
  | str a =>
    obtain ⟨t', rfl⟩ := ry
    cases x with
    | non => cases rx; exact SeqAt.EqAt.str_none a t'
    | bl b => cases rx; exact SeqAt.EqAt.str_bool a t' b
    | int b => obtain ⟨t, rfl⟩ := rx; exact SeqAt.EqAt.str_int a t' b t
    | str b => obtain ⟨t, rfl⟩ := rx; exact SeqAt.EqAt.str_str a t' b t
    | _ => exact absurd (show false = true from fx) Bool.false_ne_true
  | _ => exact absurd (show false = true from fy) Bool.false_ne_true
/-- the items' answers, read off the values (a value's own answer does not lean on its token) -/
def eqU (x : V) (u : Value) : Bool := match u with
  | .none => eqV .non x
  | .bool b => eqV (.bl b) x
  | .int i _ => eqV (.int i) x
  | .str z _ => eqV (.str z) x
  | _ => false
theorem eqU_of {x y : V} {u : Value} (r : RelV y u) (f : flatV y = true) : eqU x u = eqV y x := by
  cases y with
  | non => cases r; rfl
  | bl b => cases r; rfl
  | int i => obtain ⟨t, rfl⟩ := r; rfl
  | str z => obtain ⟨t, rfl⟩ := r; rfl
  | _ => exact absurd (show false = true from f) Bool.false_ne_true
theorem any_eqU {x : V} : ∀ {xs : List V} {us : List Value}, Vals xs us → xs.all flatV = true → us.any (eqU x) = xs.any fun y => eqV y x
  | _, _, .nil, _ => rfl
  | y :: xs, u :: us, .cons r t, f => by
    rw [List.all_cons, Bool.and_eq_true] at f
    rw [List.any_cons, List.any_cons, eqU_of r f.1, any_eqU t f.2]
theorem mem_eqAt {A : Around} {s : Shared} {x : V} {v : Value} (rx : RelV x v) (fx : flatV x = true) : ∀ {xs : List V} {us : List Value}, Vals xs us → xs.all flatV = true → ∀ u ∈ us, SeqAt.EqAt A s u v (eqU x u)
  | _, _, .nil, _ => fun u hu => by cases hu
  | y :: xs, u :: us, .cons r t, f => fun u' hu => by
    rw [List.all_cons, Bool.and_eq_true] at f
    rcases List.mem_cons.mp hu with rfl | hu
    · rw [eqU_of r f.1]; exact eqAt_V r rx f.1 fx
    · exact mem_eqAt rx fx t f.2 u' hu
def inV (x : V) (xs : List V) : Bool := xs.any fun y => eqV y x
/-- x in a list or tuple of flat items -/
def rIn (K : PySem.W.Frag) (neg : Bool) : R2 := fun x y H Q => ∃ p xs, y = .ref p ∧ (SqL K H p xs ∨ SqT K H p xs) ∧ flatV x = true ∧ xs.all flatV = true ∧ Q (.bl (if neg then !inV x xs else inV x xs)) H
theorem op_notIn_seq : OpR X (compareOp .NotIn) (rIn X.K true) := by
  intro pins s σ H x y v u Q I rx ry h
  obtain ⟨p, xs, rfl, hq, fx, fs, q⟩ := h
  cases ry
  rcases hq with hq | hq
  · obtain ⟨its, r, pl, hz⟩ := I.list hq
    refine SeqAt.notIn_listAt (eqU x) pl.isList (fun w hw => mem_eqAt rx fx r fs w (by simpa using hw)) ⟨.bl _, H, I, rfl, ?_⟩
    rw [show its.toArray.any (eqU x) = its.any (eqU x) by simp, any_eqU r fs]
    exact q
  · obtain ⟨its, r, pl, hz⟩ := I.tuple hq
    refine SeqAt.notIn_tupleAt (eqU x) pl (fun w hw => mem_eqAt rx fx r fs w (by simpa using hw)) ⟨.bl _, H, I, rfl, ?_⟩
    rw [show its.toArray.any (eqU x) = its.any (eqU x) by simp, any_eqU r fs]
    exact q
/-! ### len, list(x), tuple(x) of any list or tuple that is read -/
theorem call_list_of : CallR X (.type "list") (fun xs H Q => ∃ p ys, xs = [.ref p] ∧ (SqL X.K H p ys ∨ SqT X.K H p ys) ∧ ∀ l, H l = none → Q (.ref l) (upd H l (.lst ys))) := by
  intro pins s σ H xs us Q I r h
  obtain ⟨p, ys, rfl, hq, q⟩ := h
  obtain ⟨u, rfl, rx⟩ := vals1 r
  cases rx
  have fin : ∀ (its : List Value), Vals ys its → ys.length ≤ sizeLine → ∀ (h' : Heap) (c' : Nat), (∀ b o', s.heap.get? b = some o' → h'.get? b = some o') →
      h'.get? s.heap.objs.size = some { cls := .type "list", dict := none, data := .seq its.toArray c', slots := #[] } → EP X pins σ Q (.ref s.heap.objs.size) { s with heap := h' } := fun its r' hz h' c' kp e =>
    ⟨.ref s.heap.objs.size, _, I.laid (t' := s.toks) kp (Nat.le_refl _) (show ObjOk X.prog X.w _ h' _ (.lst ys) from ⟨hz, its, c', r', e⟩), rfl, q _ (I.hok.fresh (Nat.le_refl _))⟩
  rcases hq with hq | hq
  · obtain ⟨its, r', pl, hz⟩ := I.list hq
    have hlen := r'.length
    obtain ⟨o, ho, hc, n, hd⟩ := pl.isList
    exact call_list_seq p (.inl rfl) ho hc hd (fun h' c' kp e => fin its r' hz h' c' kp e) (by simp only [List.size_toArray] <;> omega)
  · obtain ⟨its, r', pl, hz⟩ := I.tuple hq
    have hlen := r'.length
    obtain ⟨o, ho, hc, n, hd⟩ := pl
    exact call_list_seq p (.inr rfl) ho hc hd (fun h' c' kp e => fin its r' hz h' c' kp e) (by simp only [List.size_toArray] <;> omega)
theorem call_tuple_of : CallR X (.type "tuple") (fun xs H Q => ∃ p ys, xs = [.ref p] ∧ ((SqL X.K H p ys ∧ ∀ l, H l = none → Q (.ref l) (upd H l (.tup ys))) ∨ (SqT X.K H p ys ∧ Q (.ref p) H))) := by
  intro pins s σ H xs us Q I r h
  obtain ⟨p, ys, rfl, h⟩ := h
  obtain ⟨u, rfl, rx⟩ := vals1 r
  cases rx
  rcases h with ⟨hq, q⟩ | ⟨hq, q⟩
  · obtain ⟨its, r', pl, hz⟩ := I.list hq
    have hlen := r'.length
    refine call_tuple_list pl.isList (fun h' kp => ?_) (by simp only [List.size_toArray] <;> omega)
    have I1 : Inv X pins σ H { s with heap := h' } := I.kept (t' := s.toks) kp
    have I2 : Inv X pins σ (upd H h'.objs.size (.tup ys)) { s with heap := h'.push { cls := .type "tuple", data := .seq its.toArray } } :=
      I1.laid (t' := s.toks) (fun b o e => Heap.get?_push_of_some _ e) (Nat.le_refl _) (show ObjOk X.prog X.w _ _ _ (.tup ys) from ⟨hz, its, r', IsTup.new _ _⟩)
    exact ⟨.ref h'.objs.size, _, I2, rfl, q _ (I1.hok.fresh (Nat.le_refl _))⟩
  · obtain ⟨its, r', pl, hz⟩ := I.tuple hq
    exact call_tuple_same pl ⟨.ref p, H, I, rfl, q⟩

/-! ### the call of a builtin's method: o.m(..) -/
/-- the value is of that builtin type -/
def tyV (K : PySem.W.Frag) (T : String) (x : V) (H : Hp) : Prop := match x with
  | .str _ => T = "str"
  | .int _ => T = "int"
  | .ref p => (T = "list" ∧ ∃ xs, SqL K H p xs) ∨ (T = "tuple" ∧ ∃ o, K.lookup p = some o ∧ o.cls = .type "tuple" ∧ o.dict = none) ∨
      (T = "dict" ∧ ((∃ kvs, H p = some (.dK kvs)) ∨ ∃ kvs, H p = some (.dT kvs))) ∨ (T = "set" ∧ ∃ S n, H p = some (.set S n))
  | _ => False
theorem tyV_is {pins : List (Addr × Obj)} {σ : St} {H : Hp} {s : Shared} {T : String} {x : V} {v : Value} (I : Inv X pins σ H s) (r : RelV x v) (ty : tyV X.K T x H) :
    s.TypeIs v T ∧ ∀ a, v = .ref a → ∃ ob, s.heap.get? a = some ob ∧ ob.dict = none := by
  cases x with
  | str z =>
    obtain ⟨t, rfl⟩ := r
    cases (show T = "str" from ty)
    exact ⟨typeIs_str s z t, fun _ e => nomatch e⟩
  | int i =>
    obtain ⟨t, rfl⟩ := r
    cases (show T = "int" from ty)
    exact ⟨typeIs_int s i t, fun _ e => nomatch e⟩
  | ref p =>
    cases r
    rcases ty with ⟨rfl, xs, hq⟩ | ⟨rfl, o, hk, hc, hd⟩ | ⟨rfl, hk⟩ | ⟨rfl, S, n, hk⟩
    · obtain ⟨its, _, pl, _⟩ := I.list hq
      refine ⟨pl.isList.typeIs, fun a e => ?_⟩
      cases e
      obtain ⟨o, n, e, c, hd, _⟩ := pl
      exact ⟨o, e, hd⟩
    · refine ⟨⟨o, I.kIn p o hk, hc⟩, fun a e => ?_⟩
      cases e
      exact ⟨o, I.kIn _ o hk, hd⟩
    · have z : ∃ o, s.heap.get? p = some o ∧ o.ExactDict := by
        rcases hk with ⟨kvs, hk⟩ | ⟨kvs, hk⟩
        · obtain ⟨_, _, _, _, o, _, _, e, ex, _⟩ := I.hok p _ hk
          exact ⟨o, e, ex⟩
        · obtain ⟨_, _, _, _, o, _, _, e, ex, _⟩ := I.hok p _ hk
          exact ⟨o, e, ex⟩
      obtain ⟨o, e, ex⟩ := z
      refine ⟨⟨o, e, ex.1⟩, fun a e2 => ?_⟩
      cases e2
      exact ⟨o, e, ex.2.1⟩
    · obtain ⟨o, _, _, _, e, ex, _⟩ := I.hok p _ hk
      refine ⟨⟨o, e, ex.1⟩, fun a e2 => ?_⟩
      cases e2
      exact ⟨o, e, ex.2.1⟩
  | _ => exact False.elim ty
def tBM0 (K : PySem.W.Frag) (T : String) (r : V → List V → Hp → VK → Prop) (to : TE) : TE := fun σ H Q => to σ H fun x H1 => tyV K T x H1 ∧ r x [] H1 Q
def tBM (K : PySem.W.Frag) (T : String) (r : V → List V → Hp → VK → Prop) (to : TE) (t : TA) : TE := fun σ H Q => to σ H fun x H1 => tyV K T x H1 ∧ t σ H1 fun xs H2 => r x xs H2 Q
variable {o e : Expr} {es : List Expr} {to : TE} {t : TA} {name : Str} {apos cpos : Pos} {T id : String} {r : V → List V → Hp → VK → Prop}
theorem pe_bm (pa : PlainAttrs T) (slot : Slot T name id) (hty : typeOf (.builtin id) = pure (.type "method_descriptor")) (hm : MtR X id r) (ho : PE X o to) (ha : PA X (e :: es) t)
    (hbase : attributeBase o name X.env (eval o X.env) = eval o X.env := by rfl)
    (hfew : ((backTo cpos (starEach (e :: es) X.env)).all (fun x => !x.1) && (backToKw cpos (keywordEach [] X.env)).all (fun x => x.1.isSome)
      && decide ((e :: es).length + ([] : List Keyword).length + (if ([] : List Keyword).isEmpty then 0 else 1) < 30)) = true := by rfl)
    (hline : (apos.endLine == cpos.line) = true := by rfl) (hs : starEach (e :: es) X.env = (false, eval e X.env) :: starEach es X.env := by rfl) (hplain : (backTo cpos (starEach es X.env)).any (·.1) = false := by rfl) :
    PE X (.Call (.Attribute o name apos) (e :: es) [] cpos) (tBM X.K T r to t) := by
  intro pins s σ H Q I h
  refine wpAny_Call_method_late hbase hfew hline rfl (thn (ho pins s σ H _ I h) fun v s1 ⟨x, H1, I1, r1, ty, q1⟩ => ?_)
  obtain ⟨h1, h2⟩ := tyV_is I1 r1 ty
  refine ⟨T, id, pa, slot, hty, h1, h2, ?_⟩
  have hA := ha cpos pins s1 σ H1 _ I1 q1
  rw [hs] at hA ⊢
  refine Calls.callWith_builtin (by show (false || (backTo cpos (starEach es X.env)).any (·.1)) = false; rw [hplain] <;> rfl) (Calls.evalArgs_plain ?_)
  exact thn hA fun us s2 ⟨vs, H2, I2, r2, q2⟩ => hm pins s2 σ H2 x vs v us Q I2 r1 r2 q2
/- xs.append(e), list.index on a module's tuple .. are MtR facts of 06m -/
end
end L2

namespace L2
open PySem PySem.Spec PyProof.Rows

def MtM (X : Cx) (id : String) (r : V → List V → Hp → VK → Prop) : Prop :=
  ∀ (pins : List (Addr × Obj)) (s : Shared) (σ : St) (H : Hp) (x : V) (xs : List V) (v : Value) (us : List Value) (Q : VK), Inv X pins σ H s → RelV x v → Vals xs us → r x xs H Q →
    wpAny (model X.prog X.w) X.A (call (.builtin id) (v :: us)) (EP X pins σ Q) X.xe s

/-! ### lists of values -/
theorem Vals.one : ∀ {x : V} {us : List Value}, Vals [x] us → ∃ u, us = [u] ∧ RelV x u
  | _, _, .cons r .nil => ⟨_, rfl, r⟩
theorem Vals.reverse {xs : List V} {us : List Value} (h : Vals xs us) : Vals xs.reverse us.reverse := by
  induction h with
  | nil => exact .nil
  | cons r t ih => rw [List.reverse_cons, List.reverse_cons]; exact Vals.append ih (.cons r .nil)
theorem Vals.rep {xs : List V} {us : List Value} (h : Vals xs us) : ∀ k : Nat, Vals (List.replicate k xs).flatten (List.replicate k us).flatten
  | 0 => .nil
  | k + 1 => by
    rw [List.replicate_succ, List.replicate_succ, List.flatten_cons, List.flatten_cons]
    exact Vals.append h (Vals.rep h k)
theorem foldl_rep (its : List Value) : ∀ (k : Nat) (acc : List Value),
    List.foldl (fun x1 x2 => x1 ++ x2) acc.toArray (List.replicate k its.toArray) = (acc ++ (List.replicate k its).flatten).toArray
  | 0, acc => by simp
  | k + 1, acc => by
    have e : acc.toArray ++ its.toArray = (acc ++ its).toArray := by simp
    have e2 : (acc ++ its) ++ (List.replicate k its).flatten = acc ++ (List.replicate (k + 1) its).flatten := by
      rw [List.replicate_succ, List.flatten_cons, List.append_assoc]
    rw [← e2, ← foldl_rep its k (acc ++ its), ← e, List.replicate_succ, List.foldl_cons]

section
variable {X : Cx} {pins : List (Addr × Obj)} {σ : St} {H : Hp} {s : Shared} {l b : Addr} {xs ys zs : List V}

/-! ### the two steps: a tracked list is rewritten, a new list is laid -/
theorem Inv.lset {its its' : List Value} {n : Nat} {f : Array Value → Array Value} {t' : Nat} (I : Inv X pins σ H s) (hH : H l = some (.lst xs))
    (e : s.heap.get? l = some { cls := .type "list", data := .seq its.toArray n }) (hf : f its.toArray = its'.toArray) (hv : Vals ys its') (hz : ys.length ≤ sizeLine) :
    Inv X pins σ (upd H l (.lst ys)) { s with heap := s.heap.update l (Obj.mapSeq f), toks := t' } := by
  have q := PySem.IsL.update e f
  rw [hf] at q
  refine I.write (x := l) (e := l) (by rw [hH]; exact trivial) (.inl rfl) (fun b' u hb hu => (Heap.get?_update_other s.heap (Obj.mapSeq f) (Ne.symm hb)).trans hu) ⟨_, q⟩ ?_
  exact ⟨hz, its', _, hv, q⟩
theorem Inv.lnew {its : List Value} {t' : Nat} (I : Inv X pins σ H s) (hv : Vals ys its) (hz : ys.length ≤ sizeLine) :
    Inv X pins σ (upd H s.heap.objs.size (.lst ys)) { s with heap := s.heap.push { cls := .type "list", data := .seq its.toArray }, toks := t' } :=
  I.laid (fun _ _ q => Heap.get?_push_of_some _ q) (Nat.le_refl _) ⟨hz, its, 0, hv, Heap.get?_push_size _ rfl⟩
theorem Inv.fresh (I : Inv X pins σ H s) : H s.heap.objs.size = none := I.hok.fresh (Nat.le_refl _)
theorem Inv.lstM (I : Inv X pins σ H s) (hH : H l = some (.lst xs)) : xs.length ≤ sizeLine ∧ ∃ (its : List Value) (n : Nat), Vals xs its ∧ xs.length = its.length ∧ s.heap.get? l = some { cls := .type "list", data := .seq its.toArray n } := by
  obtain ⟨z, its, n, r, e⟩ := I.hok l _ hH
  exact ⟨z, its, n, r, r.length, e⟩

theorem notLongL {n : Nat} (h : n ≤ sizeLine) : Builtin.List.listTooLong n = false := by
  unfold Builtin.List.listTooLong
  exact decide_eq_false (by omega)
end

section
variable {X : Cx}

/-! ### methods -/
def rAppend : V → List V → Hp → VK → Prop := fun x vs H Q => ∃ l xs y, x = .ref l ∧ vs = [y] ∧ H l = some (.lst xs) ∧ xs.length < sizeLine ∧ Q .non (upd H l (.lst (xs ++ [y])))
theorem mt_append : MtM X "list.append" rAppend := by
  intro pins s σ H x vs v us Q I rx rv h
  obtain ⟨l, xs, y, rfl, rfl, hH, hz, q⟩ := h
  cases rx
  obtain ⟨u, rfl, ru⟩ := rv.one
  obtain ⟨z, its, n, r, hl, e⟩ := I.lstM hH
  refine call_meets F.slot_list_append ⟨_, e, rfl⟩ F.entry_list_append (F.args_list_append_2 _ _) (PySem.list_append l its.toArray n u (by rw [List.size_toArray]; omega)) ⟨e, ?_⟩
  refine ⟨.non, _, I.lset (its' := its ++ [u]) hH e (by simp) (r.append (.cons ru .nil)) ?_, rfl, q⟩
  rw [List.length_append, List.length_singleton]
  omega

def rExtend : V → List V → Hp → VK → Prop := fun x vs H Q => ∃ l b xs zs, x = .ref l ∧ vs = [.ref b] ∧ H l = some (.lst xs) ∧ H b = some (.lst zs) ∧ xs.length + zs.length ≤ sizeLine ∧ Q .non (upd H l (.lst (xs ++ zs)))
def rPop : V → List V → Hp → VK → Prop := fun x vs H Q => ∃ l xs y, x = .ref l ∧ vs = [] ∧ H l = some (.lst xs) ∧ xs[xs.length - 1]? = some y ∧ Q y (upd H l (.lst xs.dropLast))
def rPopAt : V → List V → Hp → VK → Prop := fun x vs H Q => ∃ l xs i k y, x = .ref l ∧ vs = [.int i] ∧ H l = some (.lst xs) ∧ -(2 ^ 63) ≤ i ∧ i < 2 ^ 63 ∧ seqIndex? i xs.length = some k ∧ xs[k]? = some y ∧ Q y (upd H l (.lst (xs.eraseIdx k)))
def rReverse : V → List V → Hp → VK → Prop := fun x vs H Q => ∃ l xs, x = .ref l ∧ vs = [] ∧ H l = some (.lst xs) ∧ Q .non (upd H l (.lst xs.reverse))
def rClear : V → List V → Hp → VK → Prop := fun x vs H Q => ∃ l xs, x = .ref l ∧ vs = [] ∧ H l = some (.lst xs) ∧ Q .non (upd H l (.lst []))
/-! ### list + list, list += list, list * int -/
def rCat : R2 := fun x y H Q => ∃ l b xs zs, x = .ref l ∧ y = .ref b ∧ H l = some (.lst xs) ∧ H b = some (.lst zs) ∧ xs.length + zs.length ≤ sizeLine ∧ ∀ p, H p = none → Q (.ref p) (upd H p (.lst (xs ++ zs)))
theorem op_cat : OpR X (binaryOp .Add) rCat := by
  intro pins s σ H x y v u Q I rx ry h
  obtain ⟨l, b, xs, zs, rfl, rfl, hH, hB, hz, q⟩ := h
  cases rx
  cases ry
  obtain ⟨z, its, n, r, hl, e⟩ := I.lstM hH
  obtain ⟨z2, its2, n2, r2, hl2, e2⟩ := I.lstM hB
  refine PySem.P.add_list e e2 ?_ (by rw [List.size_toArray, List.size_toArray]; omega)
  have ea : its.toArray ++ its2.toArray = (its ++ its2).toArray := by simp
  rw [ea]
  exact ⟨.ref _, _, I.lnew (t' := s.toks) (r.append r2) (by rw [List.length_append]; omega), rfl, q _ I.fresh⟩
/-- a list times an int (a negative one is nothing) -/
def rRep : R2 := fun x y H Q => ∃ l k xs, x = .ref l ∧ y = .int k ∧ H l = some (.lst xs) ∧ -(2 ^ 63) ≤ k ∧ k < 2 ^ 63 ∧ xs.length * k.toNat ≤ sizeLine ∧
  ∀ p, H p = none → Q (.ref p) (upd H p (.lst (List.replicate k.toNat xs).flatten))
theorem len_rep {α : Type} (xs : List α) (k : Nat) : (List.replicate k xs).flatten.length = k * xs.length := by
  induction k with
  | zero => simp
  | succ k ih => rw [List.replicate_succ, List.flatten_cons, List.length_append, ih, Nat.succ_mul, Nat.add_comm]
theorem op_rep : OpR X (binaryOp .Mult) rRep := by
  intro pins s σ H x y v u Q I rx ry h
  obtain ⟨l, k, xs, rfl, rfl, hH, h1, h2, hz, q⟩ := h
  cases rx
  obtain ⟨t, rfl⟩ := ry
  obtain ⟨z, its, n, r, hl, e⟩ := I.lstM hH
  have hlen : its.toArray.size * k.toNat ≤ sizeLine := by rw [List.size_toArray, ← hl]; exact hz
  have hcap : ¬ its.toArray.size * k.toNat > (2 ^ 63 - 1) / 8 := by
    have : (sizeLine : Nat) ≤ (2 ^ 63 - 1) / 8 := by decide
    omega
  have hfit : ¬ (!Builtin.List.listFitsIndex k) = true := by
    rw [fitsIndex_both h1 h2]
    exact Bool.false_ne_true
  have hlong : ¬ Builtin.List.listTooLong (its.toArray.size * k.toNat) = true := by
    rw [notLongL hlen]
    exact Bool.false_ne_true
  have hnew : List.foldl (fun x1 x2 => x1 ++ x2) #[] (List.replicate (if its.toArray.isEmpty = true then 0 else k.toNat) its.toArray) = (List.replicate k.toNat its).flatten.toArray := by
    have f0 : ∀ m : Nat, List.foldl (fun x1 x2 => x1 ++ x2) #[] (List.replicate m its.toArray) = (List.replicate m its).flatten.toArray := fun m => by
      have := foldl_rep its m []
      rw [List.nil_append] at this
      exact this
    rw [f0]
    cases its with
    | nil => simp
    | cons a r' => rw [if_neg (by simp)]
  refine wpAny_binaryOp_repeat_ref (T := "list") (U := "int") (by decide) ⟨_, e, rfl⟩ (fun s' => typeIs_int s' k t) noFill_list_mul F.fills_int_mul F.slot_int_rmul repeat_list F.slot_int_index.lookup
    (call_meets F.slot_int_rmul (typeIs_int s k t) F.entry_int_rmul (F.args_int_rmul_2 _ _) (int___rmul___int_list k t l its.toArray n)
      ⟨e, rfl, ⟨_, e, rfl⟩, call_meets F.slot_list_mul ⟨_, e, rfl⟩ F.entry_list_mul (F.args_list_mul_2 _ _) (AutoListH.list___mul___list_int_3 l its.toArray n k t hfit hcap hlong) ⟨e, ?_⟩⟩)
  rw [hnew]
  exact ⟨.ref _, _, I.lnew (t' := s.toks) (r.rep k.toNat) (by rw [len_rep, Nat.mul_comm]; exact hz), rfl, q _ I.fresh⟩

/-! ### del xs[i] -/
end

/-! ### xs[a:b] = ys -/
section
variable {prog : Program} {w : World} {A : Around} {E : Value → Shared → Prop} {s : Shared}
set_option maxRecDepth 100000 in
end

section
variable {X : Cx}
end
end L2

namespace L2
open PySem PySem.Spec PyProof.Rows

theorem Vals.bls : ∀ {bs : List Bool} {us : List Value}, Vals (bs.map V.bl) us → us = bs.map Value.bool
  | [], us, h => by
    rw [List.map_nil] at h
    cases h
    rfl
  | b :: bs, us, h => by
    rw [List.map_cons] at h
    cases h with
    | cons r t =>
      cases r
      rw [Vals.bls t, List.map_cons]
theorem Vals.ref1 {a : Addr} {us : List Value} (r : Vals [V.ref a] us) : us = [Value.ref a] := by
  cases r with
  | cons r t =>
    cases t
    cases r
    rfl
/-! ### the library's walks over a list of ints, kept objects alone -/
section
variable {prog : Program} {w : World} {A : Around} {E : Value → Shared → Prop} {s : Shared} {l : Addr} {its : List Value} {ns : List Int} {Q : Value → Shared → Prop}
end

/-! ### the calls, by values (CallR of 03t; MtR of 06l) -/
section
variable {X : Cx}
/-- sum(xs) of a list of ints -/
def rSum (K : PySem.W.Frag) : List V → Hp → VK → Prop := fun vs H Q => ∃ (a : Addr) (ns : List Int), vs = [V.ref a] ∧ SqL K H a (ns.map V.int) ∧ Q (.int ns.sum) H
/-- max(xs), min(xs) of a list of ints -/
def rMax (K : PySem.W.Frag) : List V → Hp → VK → Prop := fun vs H Q => ∃ (a : Addr) (ns : List Int), vs = [V.ref a] ∧ SqL K H a (ns.map V.int) ∧ 0 < ns.length ∧ ∀ m, m ∈ ns → (∀ y, y ∈ ns → y ≤ m) → Q (.int m) H
def rMin (K : PySem.W.Frag) : List V → Hp → VK → Prop := fun vs H Q => ∃ (a : Addr) (ns : List Int), vs = [V.ref a] ∧ SqL K H a (ns.map V.int) ∧ 0 < ns.length ∧ ∀ m, m ∈ ns → (∀ y, y ∈ ns → m ≤ y) → Q (.int m) H
/-! sorted, sort (fewer than 64 items: the library's own bound) -/
def rSorted (K : PySem.W.Frag) : List V → Hp → VK → Prop := fun vs H Q => ∃ (a : Addr) (ns : List Int), vs = [V.ref a] ∧ SqL K H a (ns.map V.int) ∧ ns.length < 64 ∧
  ∀ (ns' : List Int) (p : Addr), ns'.Perm ns → ns'.Pairwise (· ≤ ·) → H p = none → Q (.ref p) (upd H p (.lst (ns'.map V.int)))
def rSortedS (K : PySem.W.Frag) : List V → Hp → VK → Prop := fun vs H Q => ∃ (a : Addr) (xs : List Str), vs = [V.ref a] ∧ SqL K H a (xs.map V.str) ∧ xs.length < 64 ∧
  ∀ (ys : List Str) (p : Addr), ys.Perm xs → sortedS ys = true → H p = none → Q (.ref p) (upd H p (.lst (ys.map V.str)))
/-- xs.sort(), ints -/
def rSort : V → List V → Hp → VK → Prop := fun x xs H Q => ∃ (a : Addr) (ns : List Int), x = V.ref a ∧ xs = [] ∧ H a = some (.lst (ns.map V.int)) ∧ ns.length < 64 ∧
  ∀ ns' : List Int, ns'.Perm ns → ns'.Pairwise (· ≤ ·) → Q .non (upd H a (.lst (ns'.map V.int)))
end

/-! ### list.index, flat items -/
section
variable {X : Cx}
def rIndex (K : PySem.W.Frag) : V → List V → Hp → VK → Prop := fun x xs H Q => ∃ (a : Addr) (ys : List V) (y : V) (j : Nat) (z : V), x = V.ref a ∧ xs = [y] ∧ SqL K H a ys ∧ flatV y = true ∧ ys.all flatV = true ∧ ys[j]? = some z ∧ eqV z y = true ∧
  (∀ (m : Nat) (z' : V), m < j → ys[m]? = some z' → eqV z' y = false) ∧ Q (.int (j : Nat)) H
end

/-! ### type(x) of an own instance; is, is not of a module's class -/
section
variable {X : Cx}
end

/-! ### any(xs), all(xs) of a list of bools -/
theorem iter_any {prog : Program} {w : World} {A : Around} {E : Value → Shared → Prop} {s : Shared} {l : Addr} {items : Array Value} {Q : Value → Shared → Prop} (hl : s.heap.IsList l items)
    (h : ∀ s₂ : Shared, s₂ = { s with heap := s.heap.push { cls := .type "list_iterator", data := .fields #[.ref l, .int 0 0] } } →
      (s₂.heap.IsListIter s.heap.objs.size l 0 ∧ s₂.heap.IsList l items) → l ≠ s.heap.objs.size → Q (.ref s.heap.objs.size) s₂) : wpAny (model prog w) A (pyIter (.ref l)) Q E s := by
  have hlt : l < s.heap.objs.size := by obtain ⟨_, e, _⟩ := hl; exact Heap.lt_size e
  exact wpAny_pyIter_list hl (h _ rfl ⟨⟨_, Heap.get?_push_size _ rfl, rfl, rfl⟩, hl.push _⟩ (Nat.ne_of_lt hlt))
theorem truth_bools {prog : Program} {w : World} {A : Around} {bs : List Bool} {its : List Value} (e : its = bs.map Value.bool) :
    TruthOf prog w A (fun i v => its.toArray[i]? = some v) (fun i => bs.getD i false) := fun i v s Q E hv hq => by
  have hv' : its[i]? = some v := by simpa using hv
  rw [e, List.getElem?_map] at hv'
  obtain ⟨b, hb, rfl⟩ := Option.map_eq_some_iff.mp hv'
  have hg : bs.getD i false = b := by rw [List.getD_eq_getElem?_getD, hb] <;> rfl
  have hq' : Q (bs.getD i false) s := hq
  rw [hg] at hq'
  exact wpAny_truthy_bool hq'
theorem all_range : ∀ bs : List Bool, (List.range bs.length).all (fun i => bs.getD i false) = bs.all id
  | [] => rfl
  | b :: bs => by
    rw [List.length_cons, List.range_succ_eq_map, List.all_cons, List.all_map, List.all_cons, ← all_range bs]
    all_goals rfl
section
variable {X : Cx}
def rAny (K : PySem.W.Frag) : List V → Hp → VK → Prop := fun vs H Q => ∃ (a : Addr) (bs : List Bool), vs = [V.ref a] ∧ SqL K H a (bs.map V.bl) ∧ Q (.bl (bs.any id)) H
def rAll (K : PySem.W.Frag) : List V → Hp → VK → Prop := fun vs H Q => ∃ (a : Addr) (bs : List Bool), vs = [V.ref a] ∧ SqL K H a (bs.map V.bl) ∧ Q (.bl (bs.all id)) H
theorem cr_all (hc : X.calm = true) : CallR X (.builtin "all") (rAll X.K) := by
  intro pins s σ H vs us Q I r h
  obtain ⟨a, bs, rfl, hs, q⟩ := h
  obtain ⟨its, rv, hl, _⟩ := I.list hs
  rw [Vals.ref1 r]
  have hb := rv.bls
  refine call_all_walk (iter_any hl.isList fun s₂ e2 st hne => ?_)
  subst e2
  refine ⟨_, _, _, _, _, _, _, rfl, Walks.list (A := X.A.in1) (I.ok.hd hc) _ a hne its.toArray, st, truth_bools hb, fun h' tk hk => ?_⟩
  refine ⟨.bl _, H, I.kept fun b o eo => hk b o (fun hmem => ?_) (Heap.get?_push_of_some _ eo), ?_, q⟩
  · rcases List.mem_cons.mp hmem with e1 | hmem
    · exact absurd (e1 ▸ Heap.lt_size eo) (Nat.lt_irrefl _)
    · cases hmem
  · show Value.bool _ = Value.bool _
    rw [← all_range, hb, List.size_toArray, List.length_map]
end

/-! ### == and != of data at any depth: none, bools, ints, texts, lists, tuples -/
mutual
inductive Dp (K : PySem.W.Frag) (H : Hp) : V → PyData → Prop
  | non : Dp K H .non .none
  | bl (b : Bool) : Dp K H (.bl b) (.bool b)
  | int (i : Int) : Dp K H (.int i) (.int i)
  | str (x : Str) : Dp K H (.str x) (.str x)
  | lst {a : Addr} {xs : List V} {ds : List PyData} : SqL K H a xs → DpAll K H xs ds → Dp K H (.ref a) (.list ds)
  | tup {a : Addr} {xs : List V} {ds : List PyData} : SqT K H a xs → DpAll K H xs ds → Dp K H (.ref a) (.tuple ds)
inductive DpAll (K : PySem.W.Frag) (H : Hp) : List V → List PyData → Prop
  | nil : DpAll K H [] []
  | cons {v : V} {vs : List V} {d : PyData} {ds : List PyData} : Dp K H v d → DpAll K H vs ds → DpAll K H (v :: vs) (d :: ds)
end
section
variable {X : Cx} {pins : List (Addr × Obj)} {σ : St} {H : Hp} {s : Shared}
mutual
theorem Dp.reads (I : Inv X pins σ H s) : ∀ (d : PyData) (v : V) (u : Value), Dp X.K H v d → RelV v u → ∃ as, Reads s.heap u d as
  | .none, _, _, h, r => by
    cases h
    cases r
    exact ⟨_, Reads.none⟩
  | .bool b, _, _, h, r => by
    cases h
    cases r
    exact ⟨_, Reads.bool b⟩
  | .int i, _, _, h, r => by
    cases h
    obtain ⟨t, rfl⟩ := r
    exact ⟨_, Reads.int i t⟩
  | .str x, _, _, h, r => by
    cases h
    obtain ⟨t, rfl⟩ := r
    exact ⟨_, Reads.str x t⟩
  | .list ds, _, _, h, r => by
    cases h with
    | lst hs ha =>
      cases r
      obtain ⟨its, rv, ⟨o, n, ho, hc, _, hd⟩, _⟩ := I.list hs
      obtain ⟨as, hr⟩ := Dp.readsAll I ds _ its ha rv
      exact ⟨_, Reads.list ho hc hd hr⟩
  | .tuple ds, _, _, h, r => by
    cases h with
    | tup hs ha =>
      cases r
      obtain ⟨its, rv, ⟨o, ho, hc, n, hd⟩, _⟩ := I.tuple hs
      obtain ⟨as, hr⟩ := Dp.readsAll I ds _ its ha rv
      exact ⟨_, Reads.tuple ho hc hd hr⟩
  | .dict _, _, _, h, _ => by cases h
theorem Dp.readsAll (I : Inv X pins σ H s) : ∀ (ds : List PyData) (vs : List V) (us : List Value), DpAll X.K H vs ds → Vals vs us → ∃ as, ReadsAll s.heap us ds as
  | [], _, _, h, r => by
    cases h
    cases r
    exact ⟨_, ReadsAll.nil⟩
  | d :: ds, _, _, h, r => by
    cases h with
    | cons h1 h2 =>
      cases r with
      | cons r1 r2 =>
        obtain ⟨as, q1⟩ := Dp.reads I d _ _ h1 r1
        obtain ⟨bs, q2⟩ := Dp.readsAll I ds _ _ h2 r2
        exact ⟨_, ReadsAll.cons q1 q2⟩
end
end
section
variable {X : Cx}
def rEqD (K : PySem.W.Frag) : R2 := fun x y H Q => ∃ d e, Dp K H x d ∧ Dp K H y e ∧ SeqAt.shaped d = true ∧ SeqAt.shaped e = true ∧ Q (.bl (PyData.eqv d e)) H
def rNeD (K : PySem.W.Frag) : R2 := fun x y H Q => ∃ d e, Dp K H x d ∧ Dp K H y e ∧ SeqAt.shaped d = true ∧ SeqAt.shaped e = true ∧ Q (.bl (!PyData.eqv d e)) H
end
end L2

namespace L2
open PySem PySem.Spec PyProof.Rows
abbrev CellAt (h : Heap) (c : Addr) (v : Option Value) : Prop := h.IsCell c v
def relS (scope sc : Scope) : Scope :=
  { scope with names := scope.names.map fun (n, k) => if (k == .free && sc.kind == .function && sc.names.lookup n == some .cell) then (n, .cell) else (n, k) }

def cloFrom (cells : List (Str × Addr)) : List (Str × NameKind) → List (Str × Addr) → List (Str × Addr)
  | [], acc => acc
  | (n, k) :: r, acc => if k == .free then cloFrom cells r ((n, (cells.lookup n).getD 0) :: acc) else cloFrom cells r acc

theorem closure_loop (env : Env) (f : Str × NameKind → List (Str × Addr) → Sem (ForInStep (List (Str × Addr))))
    (hf : ∀ n k c, f (n, k) c = if k == .free then (do let a ← cellOf env n; pure (.yield ((n, a) :: c))) else pure (.yield c)) :
    ∀ (names : List (Str × NameKind)) (acc : List (Str × Addr)), (∀ y ∈ names, y.2 = .free → ∃ c, env.cells.lookup y.1 = some c) → forIn names acc f = pure (cloFrom env.cells names acc)
  | [], acc, _ => by rw [List.forIn_nil]; rfl
  | (n, k) :: r, acc, h => by
    rw [List.forIn_cons, hf]
    have ih := fun acc => closure_loop env f hf r acc fun y hy => h y (List.mem_cons_of_mem _ hy)
    unfold cloFrom
    by_cases hk : (k == NameKind.free) = true
    · rw [if_pos hk, if_pos hk]
      obtain ⟨c, hc⟩ := h (n, k) List.mem_cons_self (by simpa using hk)
      have e : cellOf env n = pure c := by unfold cellOf; rw [hc]
      rw [e]
      have e2 : (env.cells.lookup n).getD 0 = c := by rw [hc]; rfl
      rw [e2]
      exact ih _
    · rw [if_neg hk, if_neg hk]
      exact ih _
theorem closure_ok {scope : Scope} {env : Env} (h : ∀ y ∈ scope.names, y.2 = .free → ∃ c, env.cells.lookup y.1 = some c) : closureFor scope env = pure (cloFrom env.cells scope.names []) := by
  simp only [closureFor]
  rw [closure_loop env _ (fun n k c => rfl) scope.names [] h]
  rfl

theorem mem_lookup {α : Type} : ∀ {l : List (Str × α)} {n : Str} {c : α}, (n, c) ∈ l → ∃ c', l.lookup n = some c'
  | (k, v) :: r, n, c, h => by
    rw [List.lookup_cons]
    cases hb : n == k with
    | true => exact ⟨_, rfl⟩
    | false =>
      rcases List.mem_cons.mp h with e | h
      · cases e; simp at hb
      · exact mem_lookup h

theorem cloFrom_mem {cells : List (Str × Addr)} : ∀ {names : List (Str × NameKind)} {acc : List (Str × Addr)} {n : Str} {c : Addr}, (n, c) ∈ cloFrom cells names acc → (n, c) ∈ acc ∨ ((n, .free) ∈ names ∧ c = (cells.lookup n).getD 0)
  | [], _, _, _, h => .inl h
  | (m, k) :: r, acc, n, c, h => by
    unfold cloFrom at h
    split at h
    · rename_i hk
      have hk : k = .free := by simpa using hk
      rcases cloFrom_mem h with h | ⟨h1, h2⟩
      · rcases List.mem_cons.mp h with e | h
        · cases e; exact .inr ⟨hk ▸ List.mem_cons_self, rfl⟩
        · exact .inl h
      · exact .inr ⟨List.mem_cons_of_mem _ h1, h2⟩
    · rcases cloFrom_mem h with h | ⟨h1, h2⟩
      · exact .inl h
      · exact .inr ⟨List.mem_cons_of_mem _ h1, h2⟩
theorem cloFrom_acc {cells : List (Str × Addr)} : ∀ {names : List (Str × NameKind)} {acc : List (Str × Addr)} {p : Str × Addr}, p ∈ acc → p ∈ cloFrom cells names acc
  | [], _, _, h => h
  | (m, k) :: r, acc, p, h => by
    unfold cloFrom
    split
    · exact cloFrom_acc (List.mem_cons_of_mem _ h)
    · exact cloFrom_acc h
theorem cloFrom_has {cells : List (Str × Addr)} : ∀ {names : List (Str × NameKind)} {acc : List (Str × Addr)} {n : Str}, (n, .free) ∈ names → (n, (cells.lookup n).getD 0) ∈ cloFrom cells names acc
  | (m, k) :: r, acc, n, h => by
    unfold cloFrom
    rcases List.mem_cons.mp h with e | h
    · cases e
      exact cloFrom_acc List.mem_cons_self
    · split
      · exact cloFrom_has h
      · exact cloFrom_has h

theorem cells_mem : ∀ {names : List (Str × NameKind)} {h : Heap} {acc : List (Str × Addr)} {x : Str} {c : Addr}, (x, c) ∈ cellsFrom h.objs.size names acc →
    (x, c) ∈ acc ∨ ((x, .cell) ∈ names ∧ h.objs.size ≤ c ∧ CellAt (pushCells h names) c none)
  | [], _, _, _, _, h => .inl h
  | (n, k) :: r, h, acc, x, c, hm => by
    unfold cellsFrom at hm
    unfold pushCells
    split at hm
    · rename_i hk
      rw [if_pos hk]
      have hk : k = .cell := by simpa using hk
      rw [← Heap.size_push h { cls := .type "cell", data := .cell none }] at hm
      rcases cells_mem hm with hm | ⟨h1, h2, h3⟩
      · rcases List.mem_cons.mp hm with e | hm
        · cases e
          exact .inr ⟨hk ▸ List.mem_cons_self, Nat.le_refl _, _, pushCells_keeps r _ _ _ (Heap.get?_push_size _ rfl), rfl⟩
        · exact .inl hm
      · rw [Heap.size_push] at h2
        exact .inr ⟨List.mem_cons_of_mem _ h1, Nat.le_of_succ_le h2, h3⟩
    · rename_i hk
      rw [if_neg hk]
      rcases cells_mem hm with hm | ⟨h1, h2, h3⟩
      · exact .inl hm
      · exact .inr ⟨List.mem_cons_of_mem _ h1, h2, h3⟩
theorem cells_acc : ∀ {names : List (Str × NameKind)} {n : Nat} {acc : List (Str × Addr)} {p : Str × Addr}, p ∈ acc → p ∈ cellsFrom n names acc
  | [], _, _, _, h => h
  | (m, k) :: r, n, acc, p, h => by
    unfold cellsFrom
    split
    · exact cells_acc (List.mem_cons_of_mem _ h)
    · exact cells_acc h
theorem cells_has : ∀ {names : List (Str × NameKind)} {n : Nat} {acc : List (Str × Addr)} {x : Str}, (x, .cell) ∈ names → ∃ c, (x, c) ∈ cellsFrom n names acc
  | (m, k) :: r, n, acc, x, h => by
    unfold cellsFrom
    rcases List.mem_cons.mp h with e | h
    · cases e
      exact ⟨n, cells_acc List.mem_cons_self⟩
    · split
      · exact cells_has h
      · exact cells_has h
theorem cells_inj : ∀ {names : List (Str × NameKind)} {h : Heap} {acc : List (Str × Addr)} {x y : Str} {c : Addr}, (∀ p ∈ acc, p.2 < h.objs.size) → (∀ x y c, (x, c) ∈ acc → (y, c) ∈ acc → x = y) →
    (x, c) ∈ cellsFrom h.objs.size names acc → (y, c) ∈ cellsFrom h.objs.size names acc → x = y
  | [], _, _, _, _, _, _, hi, h1, h2 => hi _ _ _ h1 h2
  | (n, k) :: r, h, acc, x, y, c, hl, hi, h1, h2 => by
    unfold cellsFrom at h1 h2
    split at h1
    · rename_i hk
      rw [if_pos hk] at h2
      rw [← Heap.size_push h { cls := .type "cell", data := .cell none }] at h1 h2
      refine cells_inj (h := h.push _) (fun p hp => ?_) (fun x y c a b => ?_) h1 h2
      · rw [Heap.size_push]
        rcases List.mem_cons.mp hp with rfl | hp
        · exact Nat.lt_succ_self _
        · exact Nat.lt_succ_of_lt (hl p hp)
      · rcases List.mem_cons.mp a with e | a <;> rcases List.mem_cons.mp b with e' | b
        · cases e; cases e'; rfl
        · cases e; exact absurd (hl _ b) (Nat.lt_irrefl _)
        · cases e'; exact absurd (hl _ a) (Nat.lt_irrefl _)
        · exact hi _ _ _ a b
    · rename_i hk
      rw [if_neg hk] at h2
      exact cells_inj hl hi h1 h2

theorem newEnv_comp {M : Model} {A : Around} {E : Value → Shared → Prop} {s : Shared} {scope : Scope} {globals : Addr} {closure : List (Str × Addr)} {qual : Str} {func : Option Addr} {code : Value} {around : Env} {builtins : Addr} {Q : Env → Shared → Prop}
    (h : Q (newEnv scope s.heap.objs.size globals (cellsFrom (s.heap.objs.size + 1) scope.names closure) qual func code (some around) builtins)
      { s with heap := pushCells (s.heap.push { cls := .type "dict", data := .dict #[] }) scope.names }) :
    wpAny M A (newFunctionEnv scope globals closure [] qual func code (some around) builtins) Q E s := by
  simp only [newFunctionEnv, Option.isSome_some, if_true]
  refine wpAny_bind (wpAny_alloc ?_)
  refine wpAny_bind (wpAny_layCells _ (fun n k c => rfl) scope.names closure _ _ ?_)
  rw [show ({ s with heap := s.heap.push { cls := .type "dict", data := .dict #[] } } : Shared).heap.objs.size = s.heap.objs.size + 1 from Heap.size_push ..]
  rw [List.forIn_nil]
  exact wpAny_bind (wpAny_pure (wpAny_pure h))

/-- every name of the written scope, in the scope that runs -/
theorem lookup_relS {sc : Scope} : ∀ {names : List (Str × NameKind)} {x : Str} {k : NameKind},
    (names.map fun (n, k) => if (k == NameKind.free && sc.kind == .function && sc.names.lookup n == some .cell) then (n, NameKind.cell) else (n, k)).lookup x = some k →
    ∃ k', names.lookup x = some k' ∧ (k = k' ∨ (k' = .free ∧ k = .cell))
  | [], _, _, h => by simp at h
  | (n, k₀) :: r, x, k, h => by
    have ih := @lookup_relS sc r x k
    have h' : List.lookup x ((if (k₀ == NameKind.free && sc.kind == .function && sc.names.lookup n == some .cell) = true then (n, NameKind.cell) else (n, k₀)) :: (r.map _)) = some k := h
    cases hx : x == n with
    | true =>
      simp only [List.lookup_cons, hx]
      by_cases hc : (k₀ == NameKind.free && sc.kind == .function && sc.names.lookup n == some .cell) = true
      · rw [if_pos hc] at h'
        simp only [List.lookup_cons, hx] at h'
        cases h'
        simp only [Bool.and_eq_true, beq_iff_eq] at hc
        exact ⟨k₀, rfl, .inr ⟨hc.1.1, rfl⟩⟩
      · rw [if_neg hc] at h'
        simp only [List.lookup_cons, hx] at h'
        cases h'
        exact ⟨_, rfl, .inl rfl⟩
    | false =>
      simp only [List.lookup_cons, hx]
      by_cases hc : (k₀ == NameKind.free && sc.kind == .function && sc.names.lookup n == some .cell) = true
      · rw [if_pos hc] at h'
        simp only [List.lookup_cons, hx] at h'
        exact ih h'
      · rw [if_neg hc] at h'
        simp only [List.lookup_cons, hx] at h'
        exact ih h'
/-- the names of a comprehension's block: its own (with their places in N), or captured -/
structure BlkOk (N : List Str) (sc scope : Scope) (own : List (Str × Nat)) : Prop where
  kind : scope.kind = .function
  uniq : ∀ y ∈ scope.names, scope.names.lookup y.1 = some y.2
  ix : ∀ p ∈ own, N[p.2]? = some p.1
  free : ∀ y ∈ scope.names, y.2 = .free → sc.names.lookup y.1 = some .cell ∨ sc.names.lookup y.1 = some .free
  own : ∀ y ∈ scope.names, y.2 = .local ∨ y.2 = .cell → y.1 ∈ own.map (·.1) ∨ y.1 ∉ N
/-- the slots of the block's own names forgotten -/
def wipe (σ : St) : List Nat → St
  | [] => σ
  | v :: vs => (wipe σ vs).set v none
theorem wipe_length (σ : St) : ∀ vs : List Nat, (wipe σ vs).length = σ.length
  | [] => rfl
  | v :: vs => by unfold wipe; rw [List.length_set, wipe_length σ vs]
theorem wipe_some {σ : St} {i : Nat} {x : V} : ∀ {vs : List Nat}, (wipe σ vs)[i]? = some (some x) → σ[i]? = some (some x) ∧ i ∉ vs
  | [], h => ⟨h, by simp⟩
  | v :: vs, h => by
    unfold wipe at h
    by_cases hi : v = i
    · subst hi
      by_cases hv : v < (wipe σ vs).length
      · rw [List.getElem?_set_self hv] at h; cases h
      · rw [List.getElem?_eq_none (by simpa using hv)] at h; cases h
    · rw [List.getElem?_set_ne hi] at h
      obtain ⟨h1, h2⟩ := wipe_some h
      exact ⟨h1, by simp only [List.mem_cons, not_or]; exact ⟨fun e => hi e.symm, h2⟩⟩

/-- the context of a block that starts at s, its iterator's objects at fp -/
abbrev Cx.blk (X : Cx) (s : Shared) (H : Hp) (scope : Scope) (cenv : Env) (fp : List Addr) : Cx := { X with s_0 := s, H_0 := H, env := cenv, outer := X.stack, ex := fp, fn := fun x => scope.names.lookup x == some .cell, pn := [], xe := fun _ _ => False }
section
variable {X : Cx} {pins : List (Addr × Obj)} {σ : St} {H : Hp} {s : Shared}
theorem block_start {scope : Scope} {own : List (Str × Nat)} {fp : List Addr} (I : Inv X pins σ H s) (ok : BlkOk X.N X.env.scope scope own) (hN : X.N.Nodup) (hfp : ∀ b ∈ fp, FpOk X pins H b ∧ b < s.heap.objs.size) :
    Inv (X.blk s H scope (compEnvC scope (cellsFrom (s.heap.objs.size + 1) scope.names (cloFrom X.env.cells scope.names [])) s.heap.objs.size X.env) fp) [] (wipe σ (own.map (·.2))) H { s with heap := pushCells (s.heap.push { cls := .type "dict", data := .dict #[] }) scope.names } := by
  have hfree : ∀ y ∈ scope.names, y.2 = .free → ∃ c, X.env.cells.lookup y.1 = some c := fun y hy e => by
    rcases ok.free y hy e with k | k
    · exact I.ok.has _ (.inl k)
    · exact I.ok.has _ (.inr k)
  generalize hcenv : compEnvC scope (cellsFrom (s.heap.objs.size + 1) scope.names (cloFrom X.env.cells scope.names [])) s.heap.objs.size X.env = cenv
  have kp : ∀ b o, s.heap.get? b = some o → (pushCells (s.heap.push { cls := .type "dict", data := .dict #[] }) scope.names).get? b = some o := fun b o e => pushCells_keeps _ _ _ _ (Heap.get?_push_of_some _ e)
  have hL : cenv.locals = s.heap.objs.size := by rw [← hcenv]; rfl
  have hcl : cenv.cells = cellsFrom (s.heap.objs.size + 1) scope.names (cloFrom X.env.cells scope.names []) := by rw [← hcenv]; rfl
  have hsc : cenv.scope = relS scope X.env.scope := by rw [← hcenv]; rfl
  rw [← Heap.size_push s.heap { cls := .type "dict", data := .dict #[] }] at hcl
  have cm : ∀ {y c}, (y, c) ∈ cloFrom X.env.cells scope.names [] → X.env.cells.lookup y = some c ∧ c < s.heap.objs.size := fun {y c} hm => by
    rcases cloFrom_mem hm with hm | ⟨h1, rfl⟩
    · cases hm
    · obtain ⟨c, hc⟩ := hfree _ h1 rfl
      rw [hc]
      obtain ⟨w, z⟩ := I.cell _ _ hc
      exact ⟨rfl, z.lt⟩
  have mem : ∀ {y c}, cenv.cells.lookup y = some c → (X.env.cells.lookup y = some c ∧ c < s.heap.objs.size) ∨ (s.heap.objs.size + 1 ≤ c ∧ CellAt (pushCells (s.heap.push { cls := .type "dict", data := .dict #[] }) scope.names) c none) := fun {y c} e => by
    rw [hcl] at e
    rcases cells_mem (PySem.mem_of_lookup e) with hm | ⟨_, h2, h3⟩
    · exact .inl (cm hm)
    · rw [Heap.size_push] at h2; exact .inr ⟨h2, h3⟩
  have look : ∀ {y}, scope.names.lookup y = some .free → ∃ c, cenv.cells.lookup y = some c ∧ X.env.cells.lookup y = some c := fun {y} hl => by
    have hy : (y, NameKind.free) ∈ scope.names := PySem.mem_of_lookup hl
    obtain ⟨c', e'⟩ := mem_lookup (cells_acc (names := scope.names) (n := (s.heap.push { cls := .type "dict", data := .dict #[] }).objs.size) (cloFrom_has (cells := X.env.cells) (acc := []) hy))
    rw [← hcl] at e'
    refine ⟨c', e', ?_⟩
    rw [hcl] at e'
    rcases cells_mem (PySem.mem_of_lookup e') with hm | ⟨h1, _, _⟩
    · exact (cm hm).1
    · have := ok.uniq _ h1
      rw [hl] at this; cases this
  have okB : (X.blk s H scope cenv fp).Ok := by
    refine ⟨I.ok.mod, by show cenv.scope.kind = _; rw [hsc]; exact ok.kind, by show cenv.globals = _; rw [← hcenv]; exact I.ok.glob, by show cenv.builtins = _; rw [← hcenv]; exact I.ok.blt, by show s.heap.objs.size ≤ cenv.locals; rw [hL]; exact Nat.le_refl _,
      fun y z c e1 e2 => ?_, fun y hy => ?_, fun y c z e => ?_, I.ok.hd, I.ok.frames, .inl rfl, fun b hb => ⟨?_, fun y c e z => ?_⟩, I.bs, Nat.le_trans I.ok.bsz I.sz, fun b o e hb => ?_, fun b hb z => ?_, I.stack, I.stkFree⟩
    · have e1 : cenv.cells.lookup y = some c := e1
      have e2 : cenv.cells.lookup z = some c := e2
      rw [hcl] at e1 e2
      refine cells_inj (fun p hp => ?_) (fun y z c a b => I.ok.inj y z c (cm a).1 (cm b).1) (PySem.mem_of_lookup e1) (PySem.mem_of_lookup e2)
      rw [Heap.size_push]
      exact Nat.lt_succ_of_lt (cm (y := p.1) (c := p.2) hp).2
    · show ∃ c, cenv.cells.lookup y = some c
      have key : ∀ k, cenv.kindOf y = some k → (k = .cell ∨ k = .free) → ∃ c, cenv.cells.lookup y = some c := fun k hk hk' => by
        unfold Env.kindOf at hk
        rw [hsc] at hk
        obtain ⟨k', e, r⟩ := lookup_relS hk
        have : k' = .cell ∨ k' = .free := by
          rcases r with rfl | ⟨rfl, _⟩
          · exact hk'
          · exact .inr rfl
        rcases this with rfl | rfl
        · obtain ⟨c, hm⟩ := cells_has (n := (s.heap.push { cls := .type "dict", data := .dict #[] }).objs.size) (acc := cloFrom X.env.cells scope.names []) (PySem.mem_of_lookup e)
          obtain ⟨c', e'⟩ := mem_lookup hm
          exact ⟨c', by rw [hcl]; exact e'⟩
        · obtain ⟨c, h1, _⟩ := look e
          exact ⟨c, h1⟩
      rcases hy with hy | hy
      · exact key _ hy (.inl rfl)
      · exact key _ hy (.inr rfl)
    · have z : (scope.names.lookup y == some NameKind.cell) = true := z
      have z : scope.names.lookup y = some .cell := by simpa using z
      have e : cenv.cells.lookup y = some c := e
      rw [hcl] at e
      rcases cells_mem (PySem.mem_of_lookup e) with hm | ⟨_, h2, _⟩
      · rcases cloFrom_mem hm with hm | ⟨h1, _⟩
        · cases hm
        · have q := ok.uniq _ h1
          rw [z] at q; cases q
      · rw [Heap.size_push] at h2
        exact Nat.le_of_succ_le h2
    · show b ≠ cenv.locals
      rw [hL]; exact Nat.ne_of_lt (hfp b hb).2
    · have e : cenv.cells.lookup y = some c := e
      rcases mem e with ⟨h1, _⟩ | ⟨h1, _⟩
      · exact (hfp b hb).1.2.2.2.2.1 y c h1 z
      · have h2 : s.heap.objs.size + 1 ≤ b := by rw [← z]; exact h1
        exact absurd (Nat.lt_of_lt_of_le (hfp b hb).2 (Nat.le_of_succ_le h2)) (Nat.lt_irrefl _)
    · rcases (hfp b hb).1.2.2.2.1 with z | z
      · exact I.ok.noex b o e z
      · exact absurd (Nat.lt_of_lt_of_le (Heap.lt_size e) (Nat.le_trans I.ok.bsz z)) (Nat.lt_irrefl _)
    · rcases List.mem_cons.mp (I.stkSub b z) with z | z
      · exact (hfp b hb).1.2.1 z
      · exact (hfp b hb).1.2.2.1 z
  refine ⟨okB, rfl, I.bare, Un.kept kp, ⟨fun _ => none, ?_, fun i y av e1 e2 e3 => ?_⟩, fun y c e => ?_, ?_, fun y c e => ?_, fun p hp => ?_, I.hok.kept kp, by rw [wipe_length]; exact I.len⟩
  · show Heap.Ns _ cenv.locals _
    rw [hL]
    exact Heap.Ns.keeps (Heap.Ns.new ..) fun b o e => pushCells_keeps _ _ _ _ e
  · obtain ⟨e2, hne⟩ := wipe_some e2
    have hfr : scope.names.lookup y = some .free ∧ (cenv.kindOf y = some .cell ∨ cenv.kindOf y = some .free) := by
      have key : ∀ k, cenv.scope.names.lookup y = some k → k = .local ∨ k = .cell ∨ k = .free → scope.names.lookup y = some .free ∧ (cenv.kindOf y = some .cell ∨ cenv.kindOf y = some .free) := fun k hk hk' => by
        have hk0 := hk
        rw [hsc] at hk
        obtain ⟨k', e, r⟩ := lookup_relS hk
        have no : ¬ (k' = .local ∨ k' = .cell) := fun hh => by
          rcases ok.own _ (PySem.mem_of_lookup e) hh with e' | e'
          · obtain ⟨p, hp, hpy⟩ := List.mem_map.mp e'
            have e3 := ok.ix p hp
            have : p.1 = y := hpy
            rw [this] at e3
            exact hne (List.mem_map.mpr ⟨p, hp, nodup_ix hN e3 e1⟩)
          · exact e' (List.mem_of_getElem? e1)
        rcases r with rfl | ⟨rfl, rfl⟩
        · rcases hk' with rfl | rfl | rfl
          · exact absurd (.inl rfl) no
          · exact absurd (.inr rfl) no
          · exact ⟨e, .inr hk0⟩
        · exact ⟨e, .inl hk0⟩
      have e3 : Vis cenv.scope y := e3
      rcases e3 with e3 | e3 | e3
      · exact key _ e3 (.inl rfl)
      · exact key _ e3 (.inr (.inl rfl))
      · exact key _ e3 (.inr (.inr rfl))
    obtain ⟨m, hn, hl⟩ := I.loc
    have hvis : Vis X.env.scope y := (ok.free _ (PySem.mem_of_lookup hfr.1) rfl).elim (fun k => .inr (.inl k)) (fun k => .inr (.inr k))
    obtain ⟨w, r, q⟩ := hl i y av e1 e2 hvis
    refine ⟨w, r, .inr ⟨hfr.2, ?_⟩⟩
    obtain ⟨c, h1, h2⟩ := look hfr.1
    rcases q with ⟨k, _⟩ | ⟨_, c', e', z⟩
    · have k : X.env.scope.names.lookup y = some .local := k
      rcases ok.free _ (PySem.mem_of_lookup hfr.1) rfl with k' | k' <;> rw [show X.env.scope.names.lookup y = _ from k'] at k <;> cases k
    · rw [h2] at e'; cases e'
      exact ⟨c, h1, z.keeps kp⟩
  · have e : cenv.cells.lookup y = some c := e
    rcases mem e with ⟨h1, _⟩ | ⟨_, z⟩
    · obtain ⟨w, z⟩ := I.cell y c h1
      exact ⟨w, z.keeps kp⟩
    · exact ⟨_, z⟩
  · show H cenv.locals = none
    rw [hL]; exact I.hok.fresh (Nat.le_refl _)
  · have e : cenv.cells.lookup y = some c := e
    rcases mem e with ⟨h1, _⟩ | ⟨h1, _⟩
    · exact I.freeC y c h1
    · exact I.hok.fresh (Nat.le_of_succ_le h1)
  · exact absurd (show p ∈ ([] : List (Addr × Obj)) ++ [] from hp) (by simp)

/-- an item appended to a tracked list -/
theorem app_ok {E : Value → Shared → Prop} {D : Addr} {xs : List V} {y : V} {v : Value} {Q : Value → Shared → Prop} (I : Inv X pins σ H s) (hD : H D = some (.lst xs)) (hz : xs.length < sizeLine) (r : RelV y v)
    (h : ∀ s', Inv X pins σ (upd H D (.lst (xs ++ [y]))) s' → Q .none s') : wpAny (model X.prog X.w) X.A (call (.builtin "list.append") [.ref D, v]) Q E s := by
  obtain ⟨hz', its, n, ri, e⟩ := I.hok D _ hD
  have hl := ri.length
  refine append_at (hsz := by rw [List.size_toArray]; omega) e fun h' sb ho' => ?_
  refine h { s with heap := h' } (I.write (t' := s.toks) (by rw [hD]; trivial) (.inl rfl) (fun b u hb q => (sb.2 b hb).trans q) ⟨_, ho'⟩ ⟨by rw [List.length_append]; exact hz, its ++ [v], n + 1, ri.append (.cons r .nil), ?_⟩)
  rw [ho']
  simp

/-- a clause's tests -/
def PTs (X : Cx) (ifs : List Expr) (t : TT) : Prop :=
  ∀ (pins : List (Addr × Obj)) (s : Shared) (σ : St) (H : Hp) (Q : Bool → Hp → Prop), Inv X pins σ H s → t σ H Q →
    wpAny (model X.prog X.w) X.A (forIn ifs true fun c r => if r = true then do let ok ← isTrue c X.env (eval c X.env); pure (ForInStep.yield ok) else pure (ForInStep.yield r)) (TP X pins σ Q) X.xe s
def tYes : TT := fun _ H Q => Q true H
theorem pts_nil : PTs X [] tYes := fun _ _ _ H _ I h => wpAny_tests_nil ⟨H, I, h⟩
theorem pts_one {c : Expr} {t : TT} (h : PT X c t) : PTs X [c] t := fun pins s σ H Q I hw => wpAny_tests_one (h pins s σ H Q I hw)
end

theorem thnF {α : Type} {t : Sem α} {Q Q' : α → Shared → Prop} {M : Model} {A : Around} {E : Value → Shared → Prop} {s : Shared} (h : wpAny M A t Q (fun _ _ => False) s) (hQ : ∀ a s, Q a s → Q' a s) : wpAny M A t Q' E s := wpAny_mono h hQ fun _ _ z => False.elim z

/-- the loop of a list comprehension's block, the target of any form (codeAny_compLoop_tests asks a target that no tuple goes to; statement and proof follow it, PyProof/CompMap.lean:41-61, with the step letOwnedTupleGo kept) -/
theorem compLoop_any {prog : Program} {w : World} {A : Around} {R : Result → Shared → Prop} {s : Shared} {elt target iter : Expr} {ifs : List Expr} {scope : Scope} {pos : Pos} {it acc : Value} {env : Env} (I : Nat → Shared → Prop)
    (turn : ∀ n s, I n s → wpAny (model prog w) A (pyNext it) (fun r s₁ => match r with
      | none => R (.ok .next) s₁
      | some v => wpAny (model prog w) A (letOwnedTupleGo target it v) (fun _ s₁' => wpAny (model prog w) A (assign target env v) (fun _ s₂ =>
          wpAny (model prog w) A (forIn ifs true fun c r => if r = true then do let ok ← isTrue c env (eval c env); pure (ForInStep.yield ok) else pure (ForInStep.yield r)) (fun ok s₃ =>
            if ok = true then wpAny (model prog w) A (eval elt env) (fun x s₄ =>
              wpAny (model prog w) A (call (.builtin "list.append") [acc, x]) (fun _ s₅ => ∃ m, m < n ∧ I m s₅) (notedBy (model prog w) A env fun e s' => R (.error e) s') s₄) (notedBy (model prog w) A env fun e s' => R (.error e) s') s₃
            else ∃ m, m < n ∧ I m s₃) (notedBy (model prog w) A env fun e s' => R (.error e) s') s₂) (notedBy (model prog w) A env fun e s' => R (.error e) s') s₁') (notedBy (model prog w) A env fun e s' => R (.error e) s') s₁) (notedBy (model prog w) A env fun e s' => R (.error e) s') s)
    (n : Nat) (h : I n s) :
    codeAny (model prog w) A (.compLoop (.ListComp elt [⟨target, iter, ifs, 0⟩] scope pos) 0 it acc env) R s := by
  refine codeAny_loop rfl I (fun n s hI => ?_) n h
  show wpAny _ A ((compTurn (.ListComp elt [⟨target, iter, ifs, 0⟩] scope pos) 0 it acc env).onRaise (fun x => do noteFrame x env; theTreesLotGoes x)) _ _ s
  refine wpAny_noted ?_
  rw [compTurn_list]
  refine wpAny_bind (wpAny_standAt (wpAny_bind (wpAny_mono (turn n s hI) (fun r s₁ h₁ => ?_) fun _ _ h' => h')))
  cases r with
  | none => exact wpAny_pure h₁
  | some v =>
    refine wpAny_bind (wpAny_mono h₁ (fun _ s₁' h₁' => ?_) fun _ _ h' => h')
    refine wpAny_bind (wpAny_mono h₁' (fun _ s₂ h₂ => wpAny_bind (wpAny_mono h₂ (fun ok s₃ h₃ => ?_) fun _ _ h' => h')) fun _ _ h' => h')
    cases ok with
    | false => exact wpAny_pure ⟨rfl, h₃⟩
    | true =>
      exact wpAny_bind (wpAny_bind (wpAny_mono h₃ (fun x s₄ h₄ => wpAny_bind (wpAny_mono h₄ (fun _ s₅ h₅ => wpAny_pure (wpAny_pure ⟨rfl, h₅⟩)) fun _ _ h' => h')) fun _ _ h' => h'))

section
variable {X : Cx}
/-- [elt for target in iter if ..]: D the new list; W by the turn and a measure, Nx what a turn is to reach -/
def tLc (wi : TI) (g : TG) (tt : TT) (te : TE) (vs : List Nat) : TE := fun σ H Q => wi σ H fun J H1 => ∀ D, H1 D = none → ∃ W : Nat → Nat → Hp → Prop, (∃ m, W 0 m (upd H1 D (.lst []))) ∧ ∀ i m H, W i m H →
  (J.stop i H ∧ Q (.ref D) H) ∨ (J.go i H ∧ ∃ Nx : Hp → Prop, (∀ H', Nx H' → ∃ m', m' < m ∧ W (i + 1) m' H') ∧ ∀ x H', J.yld i H x H' → g x (wipe σ vs) H' fun σ2 H2 => wipe σ2 vs = wipe σ vs ∧ tt σ2 H2 fun b H3 =>
    if b = true then te σ2 H3 fun y H4 => ∃ acc, H4 D = some (.lst acc) ∧ acc.length < sizeLine ∧ Nx (upd H4 D (.lst (acc ++ [y]))) else Nx H3)
theorem lc_core {pins : List (Addr × Obj)} {s : Shared} {σ : St} {H : Hp} {Q : VK} {elt tg iter : Expr} {ifs : List Expr} {scope : Scope} {own : List (Str × Nat)} {pos pos' : Pos} {wi : TI} {g : TG} {tt : TT} {te : TE} {use : Option (Value → Sem Unit)} {Qf : Value → Shared → Prop}
    (hc : X.calm = true) (hN : X.N.Nodup) (I : Inv X pins σ H s) (hi : PI X tg iter wi) (ok : BlkOk X.N X.env.scope scope own)
    (hg : ∀ (s : Shared) (H : Hp) (C : Addr) (cl : List (Str × Addr)) (fp : List Addr), PG (X.blk s H scope (compEnvC scope cl C X.env) fp) tg g) (ht : ∀ (s : Shared) (H : Hp) (C : Addr) (cl : List (Str × Addr)) (fp : List Addr), PTs (X.blk s H scope (compEnvC scope cl C X.env) fp) ifs tt)
    (he : ∀ (s : Shared) (H : Hp) (C : Addr) (cl : List (Str × Addr)) (fp : List Addr), PE (X.blk s H scope (compEnvC scope cl C X.env) fp) elt te) (hs : ∀ x, foldedSetIterable iter X.env x = pure x)
    (h : tLc wi g tt te (own.map (·.2)) σ H Q)
    (hRR : ∀ D C s' m H', Inv X pins σ H' s' → Q (.ref D) H' → s'.heap.Ns C m → FpOk X pins H' C → compPost (model X.prog X.w) X.A X.xe use Qf (.ref D) C (.ok .next) s') :
    wpAny (model X.prog X.w) X.A (comprehension (.ListComp elt [⟨tg, iter, ifs, 0⟩] scope pos) scope X.env pos' (newList []) false (eval iter X.env) use) Qf X.xe s := by
  have hfree : ∀ y ∈ scope.names, y.2 = .free → ∃ c, X.env.cells.lookup y.1 = some c := fun y hy e => by
    rcases ok.free y hy e with k | k
    · exact I.ok.has _ (.inl k)
    · exact I.ok.has _ (.inr k)
  refine wpAny_comprehension_free (use := use) rfl hs (closure_ok hfree) ok.kind (fun y hy e => by rw [ok.uniq y hy, e])
    (thn (hi pins s σ H _ I h) fun xv s1 hx => thn hx fun itv s2 h2 => ?_)
  obtain ⟨it, fp, tn, J, H2, e, I2, T, st2, f2, q⟩ := h2
  subst e
  refine wpAny_newObj_type (newEnv_comp ?_) (by show 0 ≤ sizeLine; decide)
  generalize hD : s2.heap.objs.size = D
  have hDn : H2 D = none := I2.hok.fresh (Nat.le_of_eq hD)
  obtain ⟨W, ⟨m0, w0⟩, turn⟩ := q D hDn
  -- the new list
  generalize hs3 : ({ s2 with heap := s2.heap.push { cls := .type "list", data := .seq ([] : List Value).toArray } } : Shared) = s3
  have I3 : Inv X pins σ (upd H2 D (.lst [])) s3 := by
    rw [← hs3]
    refine I2.laid (t' := s2.toks) (fun b o e => Heap.get?_push_of_some _ e) (Nat.le_of_eq hD) ⟨Nat.zero_le _, [], 0, .nil, ?_⟩
    rw [← hD]
    exact Heap.get?_push_size _ rfl
  have h3 : s3.heap = s2.heap.push { cls := .type "list", data := .seq ([] : List Value).toArray } := by rw [← hs3]
  have sz : ∀ b ∈ fp, b < s2.heap.objs.size := fun b hb => by
    obtain ⟨o, e, _⟩ := T.obj _ _ st2 b hb
    exact Heap.lt_size e
  have f3 : ∀ b ∈ fp, FpOk X pins (upd H2 D (.lst [])) b ∧ b < s3.heap.objs.size := fun b hb => by
    have hlt := sz b hb
    refine ⟨⟨?_, (f2 b hb).2⟩, by rw [h3, Heap.size_push]; exact Nat.lt_succ_of_lt hlt⟩
    rw [upd_ne (by rw [← hD]; exact Nat.ne_of_lt hlt)]
    exact (f2 b hb).1
  have st3 : tn 0 s3.heap := T.keep _ _ _ st2 fun b _ o e => by rw [h3]; exact Heap.get?_push_of_some _ e
  have I4 := block_start I3 ok hN f3
  have pg := hg s3 (upd H2 D (.lst [])) s3.heap.objs.size (cellsFrom (s3.heap.objs.size + 1) scope.names (cloFrom X.env.cells scope.names [])) fp
  have pt := ht s3 (upd H2 D (.lst [])) s3.heap.objs.size (cellsFrom (s3.heap.objs.size + 1) scope.names (cloFrom X.env.cells scope.names [])) fp
  have pe := he s3 (upd H2 D (.lst [])) s3.heap.objs.size (cellsFrom (s3.heap.objs.size + 1) scope.names (cloFrom X.env.cells scope.names [])) fp
  show codeAny _ _ (.compStart (.ListComp elt [⟨tg, iter, ifs, 0⟩] scope pos) 0 (.ref it) (.ref D) (compEnvC scope (cellsFrom (s3.heap.objs.size + 1) scope.names (cloFrom X.env.cells scope.names [])) s3.heap.objs.size X.env)) (compPost (model X.prog X.w) X.A X.xe use Qf (.ref D) s3.heap.objs.size) { s3 with heap := pushCells (s3.heap.push { cls := .type "dict", data := .dict #[] }) scope.names }
  have nfp : ∀ b ∈ fp, (upd H2 D (.lst [])) b = none := fun b hb => (f3 b hb).1.1
  generalize hce : compEnvC scope (cellsFrom (s3.heap.objs.size + 1) scope.names (cloFrom X.env.cells scope.names [])) s3.heap.objs.size X.env = ce at I4 pg pt pe ⊢
  have cL : ce.locals = s3.heap.objs.size := by subst hce; rfl
  generalize hH3 : upd H2 D (.lst []) = H3 at I3 I4 pg pt pe w0 nfp f3
  generalize hs4 : ({ s3 with heap := pushCells (s3.heap.push { cls := .type "dict", data := .dict #[] }) scope.names } : Shared) = s4 at I4 ⊢
  have st4 : tn 0 s4.heap := T.keep _ _ _ st3 fun b _ o e => by rw [← hs4]; exact pushCells_keeps _ _ _ _ (Heap.get?_push_of_some _ e)
  have stat : ∀ {σ' : St} {H' : Hp} {s' : Shared}, Inv (X.blk s3 H3 scope ce fp) [] σ' H' s' → (∀ b ∈ fp, H' b = none) → ∀ b ∈ fp, FpOk (X.blk s3 H3 scope ce fp) [] H' b := fun {σ' H' s'} I' hn b hb =>
    ⟨hn b hb, (I'.ok.exf b hb).1, I'.ok.exfs b hb, .inl hb, fun x c e => (I'.ok.exf b hb).2 x c e, fun p hp => absurd (show p ∈ ([] : List (Addr × Obj)) ++ [] from hp) (by simp)⟩
  have loop : codeAny (model X.prog X.w) X.A (.compLoop (.ListComp elt [⟨tg, iter, ifs, 0⟩] scope pos) 0 (.ref it) (.ref D) ce) (compPost (model X.prog X.w) X.A X.xe use Qf (.ref D) s3.heap.objs.size) s4 := by
    refine compLoop_any (fun n s' => ∃ i H', Inv (X.blk s3 H3 scope ce fp) [] (wipe σ (own.map (·.2))) H' s' ∧ tn i s'.heap ∧ (∀ b ∈ fp, H' b = none) ∧ W i n H') ?_ m0 ⟨0, H3, I4, st4, nfp, w0⟩
    rintro n s5 ⟨i, H5, I5, st5, n5, w5⟩
    rcases turn i n H5 w5 with ⟨stop, qq⟩ | ⟨go, Nx, hNx, step⟩
    · have td := T.done (X.blk s3 H3 scope ce fp) rfl rfl rfl hc i [] s5 _ H5 (fun _ _ => False) I5 (stat I5 n5) st5 stop
      refine thnF td fun r s6 ⟨hr, I6⟩ => ?_
      subst hr
      -- back in the def's context
      have I7 : Inv X pins σ H5 s6 := I3.call' (ch := fp) I6.os I6.base I6.hok I6.bare fun b hb => ⟨(f3 b hb).1.2.2.2.1, (f3 b hb).1.2.1, (f3 b hb).1.2.2.2.2.1, (f3 b hb).1.2.2.2.2.2⟩
      have nC : H5 s3.heap.objs.size = none := by
        have z : H5 ce.locals = none := I6.free
        rw [cL] at z
        exact z
      obtain ⟨m, hn, _⟩ := I6.loc
      have hn : s6.heap.Ns ce.locals m := hn
      rw [cL] at hn
      exact hRR D s3.heap.objs.size s6 m H5 I7 qq hn (I3.fpOk (Nat.le_refl _) nC)
    · have ti := T.item (X.blk s3 H3 scope ce fp) rfl rfl rfl hc i [] s5 _ H5 (fun _ _ => False) I5 (stat I5 n5) st5 go
      refine thnF ti fun r s6 ⟨u, hr, h6⟩ => ?_
      subst hr
      refine thnF h6 fun _ s7 ⟨x, H7, I7, r7, y7, st7, n7⟩ => ?_
      have I7' := I7.pinned (stat I7 n7) (T.obj _ _ st7)
      refine thnF (pg _ s7 _ H7 x u _ I7' r7 (step x H7 y7)) fun _ s8 ⟨σ8, H8, I8, hw8, q8⟩ => ?_
      refine thnF (pt _ s8 σ8 H8 _ I8 q8) fun b s9 ⟨H9, I9, q9⟩ => ?_
      -- the turn's end
      have fin : ∀ {s' : Shared} {H' : Hp}, Inv (X.blk s3 H3 scope ce fp) ([] ++ pinsAt fp s7.heap) σ8 H' s' → Nx H' → ∃ m, m < n ∧ ∃ i H', Inv (X.blk s3 H3 scope ce fp) [] (wipe σ (own.map (·.2))) H' s' ∧ tn i s'.heap ∧ (∀ b ∈ fp, H' b = none) ∧ W i m H' := fun {s' H'} I' nx => by
        obtain ⟨m', hm, w'⟩ := hNx H' nx
        have pin' : ∀ b ∈ fp, ∀ o, s7.heap.get? b = some o → s'.heap.get? b = some o ∧ H' b = none := fun b hb o e =>
          let z := I'.pin (b, o) (List.mem_append_right _ (List.mem_append_right _ (mem_pinsAt hb e)))
          ⟨z.1, z.2.1⟩
        have hl : (wipe σ (own.map (·.2))).length = σ8.length := by rw [← hw8, wipe_length]
        refine ⟨m', hm, i + 1, H', (I'.unpinned (pins := [])).weak hl (fun j v e => ?_), T.keep _ _ _ st7 fun b hb o e => (pin' b hb o e).1, fun b hb => ?_, w'⟩
        · rw [← hw8] at e
          exact (wipe_some e).1
        · obtain ⟨o, e, _⟩ := T.obj _ _ st7 b hb
          exact (pin' b hb o e).2
      cases b with
      | false =>
        simp only [Bool.false_eq_true, if_false] at q9 ⊢
        exact fin I9 q9
      | true =>
        simp only [if_true] at q9 ⊢
        refine thnF (pe _ s9 σ8 H9 _ I9 q9) fun z s10 ⟨yv, H10, I10, r10, acc, hD10, hz10, nx⟩ => ?_
        exact app_ok (X := X.blk s3 H3 scope ce fp) I10 hD10 hz10 r10 fun s11 I11 => fin I11 nx
  exact codeAny_compStart_list loop (T.self X.A 0 _ _ _ st4 loop)
/-- as a value -/
theorem pe_lc {elt tg iter : Expr} {ifs : List Expr} {scope : Scope} {own : List (Str × Nat)} {pos : Pos} {wi : TI} {g : TG} {tt : TT} {te : TE} (hc : X.calm = true) (hN : X.N.Nodup) (hi : PI X tg iter wi) (ok : BlkOk X.N X.env.scope scope own)
    (hg : ∀ (s : Shared) (H : Hp) (C : Addr) (cl : List (Str × Addr)) (fp : List Addr), PG (X.blk s H scope (compEnvC scope cl C X.env) fp) tg g) (ht : ∀ (s : Shared) (H : Hp) (C : Addr) (cl : List (Str × Addr)) (fp : List Addr), PTs (X.blk s H scope (compEnvC scope cl C X.env) fp) ifs tt)
    (he : ∀ (s : Shared) (H : Hp) (C : Addr) (cl : List (Str × Addr)) (fp : List Addr), PE (X.blk s H scope (compEnvC scope cl C X.env) fp) elt te) (hs : ∀ x, foldedSetIterable iter X.env x = pure x := by intro _; rfl) :
    PE X (.ListComp elt [⟨tg, iter, ifs, 0⟩] scope pos) (tLc wi g tt te (own.map (·.2))) := by
  intro pins s σ H Q I h
  rw [eval_ListComp]
  refine lc_core hc hN I hi ok hg ht he hs h fun D C s' m H' I' q hn f => ⟨m, hn, fun h'' sb => ?_⟩
  obtain ⟨f0, f1, f2, f3, f4, f5⟩ := f
  exact ⟨.ref D, H', I'.turned (t' := s'.toks) (fun b o hb e => (sb.2 b hb).trans e) f0 f1 f3 f4 f5, rfl, q⟩
end

/-! ### the forms one uses -/
/-- over a range: Pv by the turn and the heap (the new list at D within) -/
theorem lc_range {lo : Int} {n : Nat} {g : TG} {tt : TT} {te : TE} {vs : List Nat} {σ : St} {H1 : Hp} {D : Addr} {Qd : Hp → Prop} (Pv : Nat → Hp → Prop) (h0 : Pv 0 (upd H1 D (.lst [])))
    (hs : ∀ i H, i < n → Pv i H → g (.int (lo + i)) (wipe σ vs) H fun σ2 H2 => wipe σ2 vs = wipe σ vs ∧ tt σ2 H2 fun b H3 =>
      if b = true then te σ2 H3 fun y H4 => ∃ acc, H4 D = some (.lst acc) ∧ acc.length < sizeLine ∧ Pv (i + 1) (upd H4 D (.lst (acc ++ [y]))) else Pv (i + 1) H3) (hd : ∀ H, Pv n H → Qd H) :
    ∃ W : Nat → Nat → Hp → Prop, (∃ m, W 0 m (upd H1 D (.lst []))) ∧ ∀ i m H, W i m H →
      ((Itr lo n).stop i H ∧ Qd H) ∨ ((Itr lo n).go i H ∧ ∃ Nx : Hp → Prop, (∀ H', Nx H' → ∃ m', m' < m ∧ W (i + 1) m' H') ∧ ∀ x H', (Itr lo n).yld i H x H' → g x (wipe σ vs) H' fun σ2 H2 => wipe σ2 vs = wipe σ vs ∧ tt σ2 H2 fun b H3 =>
        if b = true then te σ2 H3 fun y H4 => ∃ acc, H4 D = some (.lst acc) ∧ acc.length < sizeLine ∧ Nx (upd H4 D (.lst (acc ++ [y]))) else Nx H3) := by
  refine ⟨fun i m H => m = n - i ∧ i ≤ n ∧ Pv i H, ⟨n, by simp, Nat.zero_le _, h0⟩, ?_⟩
  rintro i m H ⟨rfl, hi, p⟩
  by_cases hlt : i < n
  · refine .inr ⟨hlt, Pv (i + 1), fun H' p' => ⟨n - (i + 1), by omega, rfl, hlt, p'⟩, fun x H' y => ?_⟩
    obtain ⟨e, y⟩ := y
    subst e y
    exact hs i _ hlt p
  · have e : i = n := by omega
    subst e
    exact .inl ⟨Nat.le_refl _, hd H p⟩
def blkC (N : List Str) (sc scope : Scope) (own : List (Str × Nat)) : Bool :=
  (match scope.kind with | .function => true | _ => false) && (scope.names.all fun y => decide (scope.names.lookup y.1 = some y.2)) && (own.all fun p => decide (N[p.2]? = some p.1)) &&
    (scope.names.all fun y => match y.2 with
      | .free => (match sc.names.lookup y.1 with | some .cell => true | some .free => true | _ => false)
      | .local => decide (y.1 ∈ own.map (·.1)) || decide (y.1 ∉ N)
      | .cell => decide (y.1 ∈ own.map (·.1)) || decide (y.1 ∉ N)
      | _ => true)
theorem blkOk_by {N : List Str} {sc scope : Scope} {own : List (Str × Nat)} (h : blkC N sc scope own = true) : BlkOk N sc scope own := by
  unfold blkC at h
  simp only [Bool.and_eq_true, List.all_eq_true, decide_eq_true_eq] at h
  obtain ⟨⟨⟨h1, h2⟩, h3⟩, h4⟩ := h
  refine ⟨?_, h2, h3, fun y hy e => ?_, fun y hy e => ?_⟩
  · split at h1
    · assumption
    · cases h1
  · have q := h4 y hy
    simp only [e] at q
    split at q <;> first | exact .inl (by assumption) | exact .inr (by assumption) | cases q
  · have q := h4 y hy
    rcases e with e | e <;> (simp only [e, Bool.or_eq_true, decide_eq_true_eq] at q; exact q)
end L2

namespace L2
open PySem PySem.Spec PyProof.Rows

section
variable {prog : Program} {w : World} {A : Around} {R : Result → Shared → Prop} {s : Shared} {elt t0 i0 t1 i1 : Expr} {ifs0 ifs1 : List Expr} {scope : Scope} {pos : Pos} {it acc : Value} {env : Env}
end

section
variable {X : Cx}
/-- [elt for tg in iter if .. for tg1 in iter1 if ..]: behind the first clause's store and tests the second source's own loop, from which Nx is reached. vs: the block's names; vs1: those of the second target -/
def tLc2 (wi : TI) (g : TG) (tt : TT) (wi1 : TI) (g1 : TG) (tt1 : TT) (te : TE) (vs vs1 : List Nat) : TE := fun σ H Q => wi σ H fun J H1 => ∀ D, H1 D = none → ∃ W : Nat → Nat → Hp → Prop, (∃ m, W 0 m (upd H1 D (.lst []))) ∧ ∀ i m H, W i m H →
  (J.stop i H ∧ Q (.ref D) H) ∨ (J.go i H ∧ ∃ Nx : Hp → Prop, (∀ H', Nx H' → ∃ m', m' < m ∧ W (i + 1) m' H') ∧ ∀ x H', J.yld i H x H' → g x (wipe σ vs) H' fun σ2 H2 => wipe σ2 vs = wipe σ vs ∧ tt σ2 H2 fun b H3 =>
    if b = true then wi1 σ2 H3 fun J1 H4 => ∃ W1 : Nat → Nat → Hp → Prop, (∃ m, W1 0 m H4) ∧ ∀ j k H, W1 j k H →
      (J1.stop j H ∧ Nx H) ∨ (J1.go j H ∧ ∃ Nx1 : Hp → Prop, (∀ H', Nx1 H' → ∃ k', k' < k ∧ W1 (j + 1) k' H') ∧ ∀ x H', J1.yld j H x H' → g1 x (wipe σ2 vs1) H' fun σ3 H5 => wipe σ3 vs1 = wipe σ2 vs1 ∧ tt1 σ3 H5 fun b H6 =>
        if b = true then te σ3 H6 fun y H7 => ∃ acc, H7 D = some (.lst acc) ∧ acc.length < sizeLine ∧ Nx1 (upd H7 D (.lst (acc ++ [y]))) else Nx1 H6)
    else Nx H3)
end
end L2

namespace L2
open PySem PySem.Spec PyProof.Rows

/-! ### lists of pairs as tables -/
section
variable {κ : Type} [DecidableEq κ]
def valV (kvs : List (κ × V)) (k : κ) : Option V := (kvs.find? fun kv => decide (kv.1 = k)).map (·.2)
/-- in its place, or at the end -/
def putK (kvs : List (κ × V)) (k : κ) (v : V) : List (κ × V) :=
  if (kvs.any fun kv => decide (kv.1 = k)) = true then kvs.map (fun kv => if kv.1 = k then (kv.1, v) else kv) else kvs ++ [(k, v)]
def dropK (kvs : List (κ × V)) (k : κ) : List (κ × V) := kvs.filter fun kv => decide (kv.1 ≠ k)

theorem length_putK (kvs : List (κ × V)) (k : κ) (v : V) : (putK kvs k v).length ≤ kvs.length + 1 := by
  unfold putK
  split
  · rw [List.length_map]; omega
  · rw [List.length_append, List.length_cons, List.length_nil]; omega
theorem KV.any {kvs : List (κ × V)} {vs : List (κ × Value)} (r : KV kvs vs) (k : κ) : (kvs.any fun kv => decide (kv.1 = k)) = vs.any fun kv => decide (kv.1 = k) := by
  unfold KV at r
  induction r with
  | nil => rfl
  | cons h t ih => rw [List.any_cons, List.any_cons, ih, h.1]
theorem KV.repl {kvs : List (κ × V)} {vs : List (κ × Value)} (r : KV kvs vs) (k : κ) {y : V} {u : Value} (ry : RelV y u) :
    KV (kvs.map fun kv => if kv.1 = k then (kv.1, y) else kv) (vs.map fun kv => if kv.1 = k then (kv.1, u) else kv) := by
  unfold KV at r ⊢
  induction r with
  | nil => exact .nil
  | @cons p q ps qs h t ih =>
    rw [List.map_cons, List.map_cons]
    refine .cons ?_ ih
    obtain ⟨h1, h2⟩ := h
    by_cases e : p.1 = k
    · rw [if_pos e, if_pos (h1.symm.trans e)]; exact ⟨h1, ry⟩
    · rw [if_neg e, if_neg (fun z => e (h1.trans z))]; exact ⟨h1, h2⟩
theorem KV.put {kvs : List (κ × V)} {vs : List (κ × Value)} (r : KV kvs vs) (k : κ) {y : V} {u : Value} (ry : RelV y u) : KV (putK kvs k y) (stored vs k u) := by
  unfold putK stored
  rw [r.any k]
  by_cases e : (vs.any fun kv => decide (kv.1 = k)) = true
  · rw [if_pos e, if_pos e]; exact r.repl k ry
  · rw [if_neg e, if_neg e]; exact Paired.snoc r ⟨rfl, ry⟩
end


/-! ### a tracked dict, its keys ints and texts or tuples of these -/
theorem kV_is {P : Program} {w : World} {k : Key} {u : Value} (r : RelV (kV k) u) : (mixKind P w).is k u = true := by
  cases k with
  | inl i => obtain ⟨t, e⟩ := (show ∃ t, u = Value.int i t from r); subst e; exact mixKind_int P w i t
  | inr x => obtain ⟨t, e⟩ := (show ∃ t, u = Value.str x t from r); subst e; exact mixKind_str P w x t
/-- raw entries of a dict with tuple keys -/
abbrev KT (H : Hp) : List (List Key × V) → List (List Key × Addr × Value) → Prop := Paired fun p q => p.1 = q.1 ∧ H q.2.1 = some (.tup (p.1.map kV)) ∧ RelV p.2 q.2.2
section
variable {P : Program} {w : World} {H : Hp} {h : Heap} {a : Addr}
theorem rd_of {u : HO} (ok : HOk P w H h) (e : Rd H a u) : ObjOk P w H h a u := e.ok ok
theorem dk_rd {kvs : List (Key × V)} (ok : HOk P w H h) (e : Rd H a (.dK kvs)) : kvs.length ≤ sizeLine ∧ (a == sysModules) = false ∧ ∃ vs, KV kvs vs ∧ h.DictOf (mixKind P w) a vs :=
  show ObjOk P w H h a (.dK kvs) from rd_of ok e
theorem dk_of {kvs : List (Key × V)} (ok : HOk P w H h) (e : H a = some (.dK kvs)) : kvs.length ≤ sizeLine ∧ (a == sysModules) = false ∧ ∃ vs, KV kvs vs ∧ h.DictOf (mixKind P w) a vs := dk_rd ok (.inl e)
end

/-- what the dict at a holds at the key y -/
def DGet (H : Hp) (a : Addr) (y : V) (r : Option V) : Prop :=
  (∃ kvs k, Rd H a (.dK kvs) ∧ y = kV k ∧ r = valV kvs k) ∨ ∃ kvs k b, Rd H a (.dT kvs) ∧ y = .ref b ∧ H b = some (.tup (k.map kV)) ∧ r = valV kvs k
/-- the heap behind a[y] = v -/
def DPut (H : Hp) (a : Addr) (y v : V) (H' : Hp) : Prop :=
  (∃ kvs k, H a = some (.dK kvs) ∧ y = kV k ∧ kvs.length < sizeLine ∧ H' = upd H a (.dK (putK kvs k v))) ∨
  ∃ kvs k b, H a = some (.dT kvs) ∧ y = .ref b ∧ H b = some (.tup (k.map kV)) ∧ kvs.length < sizeLine ∧ H' = upd H a (.dT (putK kvs k v))
section
variable {X : Cx} {pins : List (Addr × Obj)} {σ : St} {H : Hp} {s : Shared} {a : Addr} {y v : V} {u r : Value} {o : Option V} {A : Around} {E : Value → Shared → Prop}

theorem Inv.big (I : Inv X pins σ H s) : sysModules < s.heap.objs.size := by
  have h : mainGlobals < s.heap.objs.size := (I.mod.glob.keeps I.bk).lt
  exact Nat.lt_trans (by decide) h

/-- a dict's object is replaced -/
theorem d_write {h' : Heap} {t' : Nat} {ob : HO} (I : Inv X pins σ H s) (mu : Mut (H a)) (hs : Heap.SameBut a s.heap h') (he : ∃ q, h'.get? a = some q) (new : ObjOk X.prog X.w (upd H a ob) h' a ob) :
    Inv X pins σ (upd H a ob) { s with heap := h', toks := t' } :=
  I.write (x := a) (e := a) mu (.inl rfl) (fun b q hb z => (hs.2 b hb).trans z) he new
theorem dk_new {P : Program} {w : World} {H' : Hp} {h' : Heap} {kvs : List (Key × V)} {vs : List (Key × Value)} (z : kvs.length ≤ sizeLine) (hd : (a == sysModules) = false) (rel : KV kvs vs) (dd : h'.DictOf (mixKind P w) a vs) :
    ObjOk P w H' h' a (.dK kvs) := ⟨z, hd, vs, rel, dd⟩
end

section
variable {X : Cx} {pins : List (Addr × Obj)} {σ : St} {H : Hp} {s : Shared} {a : Addr} {kvs : List (Key × V)} {k : Key} {u : Value} {A : Around} {E : Value → Shared → Prop}
end


/-! ### readings and rules -/
/-- the element of a subscription, not a slice -/
def NoSl (i : Expr) : Prop := ∀ ov iv, subscripted i false ov iv = operate [ov, iv] (getItem ov iv)
/-- d[y] -/
def tDGet (td ty : TE) : TE := fun σ H Q => td σ H fun x H1 => ty σ H1 fun y H2 => ∃ a v, x = .ref a ∧ DGet H2 a y (some v) ∧ Q v H2
/-- y in d, y not in d -/
def tDIn (ty td : TE) : TE := fun σ H Q => ty σ H fun y H1 => td σ H1 fun x H2 => ∃ a o, x = .ref a ∧ DGet H2 a y o ∧ Q (.bl o.isSome) H2
def tDNotIn (ty td : TE) : TE := fun σ H Q => ty σ H fun y H1 => td σ H1 fun x H2 => ∃ a o, x = .ref a ∧ DGet H2 a y o ∧ Q (.bl (!o.isSome)) H2
/-- d[y] = v -/
def sDPut (td ty tv : TE) : TS := fun D σ H => tv σ H fun v H1 => td σ H1 fun x H2 => ty σ H2 fun y H3 => ∃ a H4, x = .ref a ∧ DPut H3 a y v H4 ∧ D.nx σ H4
/-- d[y] op= v -/
def sDAug (td ty tv : TE) (rd : V → V → Hp → VK → Prop) : TS := fun D σ H => td σ H fun x H1 => ty σ H1 fun y H2 => ∃ a v, x = .ref a ∧ DGet H2 a y (some v) ∧
  tv σ H2 fun y2 H3 => rd v y2 H3 fun z H4 => ∃ H5, DPut H4 a y z H5 ∧ D.nx σ H5
/-- del d[y] -/
def sDDel (td ty : TE) : TS := fun D σ H => td σ H fun x H1 => ty σ H1 fun y H2 => ∃ a kvs k, x = .ref a ∧ H2 a = some (.dK kvs) ∧ y = kV k ∧ (valV kvs k).isSome = true ∧ D.nx σ (upd H2 a (.dK (dropK kvs k)))

section
variable {X : Cx} {o i e value : Expr} {pos pos' tpos : Pos} {td ty tv : TE}
end


/-! ### displays -/
theorem dk_empty {P : Program} {w : World} {H : Hp} (h : Heap) (hb : sysModules < h.objs.size) : ObjOk P w H (h.push { cls := .type "dict", data := .dict #[] }) h.objs.size (.dK []) :=
  ⟨Nat.zero_le _, beq_eq_false_iff_ne.mpr (Ne.symm (Nat.ne_of_lt hb)), [], .nil, Heap.DictOf.new h⟩
/-- {}, to be a dict of the kind that is wanted -/
def tDNewK : TE := fun _ H Q => ∀ p, H p = none → Q (.ref p) (upd H p (.dK []))
def tDNewT : TE := fun _ H Q => ∀ p, H p = none → Q (.ref p) (upd H p (.dT []))
section
variable {X : Cx} {pos : Pos}
theorem pe_dnewK : PE X (.Dict [] [] pos) tDNewK := fun pins s σ H Q I h =>
  wpAny_Dict_empty ⟨.ref s.heap.objs.size, _, I.laid (a := s.heap.objs.size) (o := .dK []) (t' := s.toks) (fun _ _ q => Heap.get?_push_of_some _ q) (Nat.le_refl _) (dk_empty s.heap I.big), rfl, h _ (I.hok.fresh (Nat.le_refl _))⟩
end

/-- the pairs of a display, from the left -/
def tPairs : List (TE × TE) → St → Hp → (List (V × V) → Hp → Prop) → Prop
  | [], _, H, Q => Q [] H
  | (tk, tv) :: r, σ, H, Q => tk σ H fun x H1 => tv σ H1 fun y H2 => tPairs r σ H2 fun ps H3 => Q ((x, y) :: ps) H3
abbrev VV : List (V × V) → List (Value × Value) → Prop := Paired fun p q => RelV p.1 q.1 ∧ RelV p.2 q.2
def PPs (X : Cx) (pos : Pos) (keys : List (Option Expr)) (values : List Expr) (trs : List (TE × TE)) : Prop :=
  ∀ (pins : List (Addr × Obj)) (s : Shared) (σ : St) (H : Hp) (Q : List (V × V) → Hp → Prop), Inv X pins σ H s → tPairs trs σ H Q →
    wpAny (model X.prog X.w) X.A (evalPairs (pairTrees keys values X.env pos)) (fun vs s' => ∃ ps H', Inv X pins σ H' s' ∧ VV ps vs ∧ Q ps H') X.xe s
theorem pps_nil {X : Cx} {pos : Pos} : PPs X pos [] [] [] := fun pins s σ H Q I h => pairTrees_nil_walk ⟨[], H, I, .nil, h⟩
theorem pps_cons {X : Cx} {pos : Pos} {k v : Expr} {ks : List (Option Expr)} {vs : List Expr} {tk tv : TE} {trs : List (TE × TE)} (hk : PE X k tk) (hv : PE X v tv) (hr : PPs X pos ks vs trs) :
    PPs X pos (some k :: ks) (v :: vs) ((tk, tv) :: trs) := fun pins s σ H Q I h =>
  pairTrees_cons_walk (thn (hk pins s σ H _ I h) fun u s1 ⟨x, H1, I1, rx, q1⟩ => thn (hv pins s1 σ H1 _ I1 q1) fun w2 s2 ⟨y, H2, I2, ry, q2⟩ =>
    thn (hr pins s2 σ H2 _ I2 q2) fun ws s3 ⟨ps, H3, I3, rel, q3⟩ => ⟨(x, y) :: ps, H3, I3, .cons ⟨rx, ry⟩ rel, q3⟩)

def mergeK (kvs more : List (Key × V)) : List (Key × V) := more.foldl (fun acc kv => putK acc kv.1 kv.2) kvs
theorem KV.merge : ∀ {more : List (Key × V)} {rs : List (Key × Value)} {kvs : List (Key × V)} {vs : List (Key × Value)}, KV more rs → KV kvs vs → KV (mergeK kvs more) (merged vs rs) := by
  intro more rs kvs vs r
  unfold KV at r
  induction r generalizing kvs vs with
  | nil => intro q; exact q
  | @cons p q ps qs h t ih =>
    intro r0
    have e : KV (putK kvs p.1 p.2) (stored vs q.1 q.2) := by
      have := r0.put p.1 h.2
      rw [← h.1]; exact this
    exact ih e
theorem length_mergeK : ∀ (more kvs : List (Key × V)), (mergeK kvs more).length ≤ kvs.length + more.length
  | [], kvs => by show kvs.length ≤ kvs.length + 0; omega
  | p :: r, kvs => by
    have h1 := length_mergeK r (putK kvs p.1 p.2)
    have h2 := length_putK kvs p.1 p.2
    show (mergeK (putK kvs p.1 p.2) r).length ≤ _
    rw [List.length_cons]; omega
theorem carries_of {P : Program} {w : World} : ∀ {kvs : List (Key × V)} {ws : List (Value × Value)}, VV (kvs.map fun kv => (kV kv.1, kv.2)) ws → ∃ rs, Carries (mixKind P w) ws rs ∧ KV kvs rs
  | [], _, r => by rw [List.map_nil] at r; cases r; exact ⟨[], True.intro, .nil⟩
  | p :: kvs, _, r => by
    rw [List.map_cons] at r
    cases r with
    | @cons a b as bs h t =>
      obtain ⟨rs, c, q⟩ := carries_of (P := P) (w := w) t
      obtain ⟨b1, b2⟩ := b
      exact ⟨(p.1, b2) :: rs, ⟨kV_is h.1, rfl, c⟩, .cons ⟨rfl, h.2⟩ q⟩
/-- {k: v, ..} with keys ints and texts; the new dict stands empty while the pairs are made -/
def tDisp (trs : List (TE × TE)) : TE := fun σ H Q => ∀ p, H p = none → tPairs trs σ (upd H p (.dK [])) fun ps H2 => H2 p = some (.dK []) ∧ ∃ kvs : List (Key × V), ps = kvs.map (fun kv => (kV kv.1, kv.2)) ∧ kvs.length ≤ 15 ∧ Q (.ref p) (upd H2 p (.dK (mergeK [] kvs)))
theorem pe_disp {X : Cx} {pos : Pos} {keys : List (Option Expr)} {values : List Expr} {trs : List (TE × TE)} (h : PPs X pos keys values trs) (hall : keys.all (·.isSome) = true) (hl : keys.length = values.length) (h0 : keys ≠ [])
    (h15 : keys.length ≤ 15) : PE X (.Dict keys values pos) (tDisp trs) := by
  intro pins s σ H Q I q
  have hn := I.hok.fresh (Nat.le_refl s.heap.objs.size)
  have I1 := I.laid (a := s.heap.objs.size) (o := .dK []) (h' := s.heap.push { cls := .type "dict", data := .dict #[] }) (t' := s.toks) (fun _ _ q => Heap.get?_push_of_some _ q) (Nat.le_refl _) (dk_empty s.heap I.big)
  refine wpAny_Dict_walk (knd := mixKind X.prog X.w) hall hl h0 h15 (thn (h pins _ σ _ _ I1 (q _ hn)) fun ws s2 ⟨ps, H2, I2, rel, e, kvs, ep, lk, q2⟩ => ?_)
  subst ep
  obtain ⟨rs, c, rk⟩ := carries_of (P := X.prog) (w := X.w) rel
  obtain ⟨z, hd, vs0, r0, dd⟩ := dk_of I2.hok e
  cases r0
  refine ⟨rs, c, dd, fun h' dd' hs => ⟨.ref s.heap.objs.size, _, ?_, rfl, q2⟩⟩
  have hz : (mergeK [] kvs).length ≤ sizeLine := by
    have h1 := length_mergeK kvs []
    rw [List.length_nil] at h1
    rw [sizeLine_eq]; omega
  have he : ∃ q, h'.get? s.heap.objs.size = some q := let ⟨q, _, _, hq, _⟩ := dd'; ⟨q, hq⟩
  exact d_write I2 (by rw [e]; exact True.intro) hs he (dk_new hz hd (rk.merge .nil) dd')


/-! ### methods -/
/-- a method call o.m(e) of a built-in, with one argument: what must be seen of the text -/
structure M1 (X : Cx) (o : Expr) (m : Str) (apos : Pos) (e : Expr) (cpos : Pos) : Prop where
  base : attributeBase o m X.env (eval o X.env) = eval o X.env
  few : ((backTo cpos (starEach [e] X.env)).all (fun x => !x.1) && (backToKw cpos (keywordEach [] X.env)).all (fun x => x.1.isSome)
    && decide (([e] : List Expr).length + ([] : List Keyword).length + (if ([] : List Keyword).isEmpty then 0 else 1) < 30)) = true
  line : (apos.endLine == cpos.line) = true
  trees : backTo cpos (starEach [e] X.env) = [(false, eval e X.env)]
structure M2 (X : Cx) (o : Expr) (m : Str) (apos : Pos) (e f : Expr) (cpos : Pos) : Prop where
  base : attributeBase o m X.env (eval o X.env) = eval o X.env
  few : ((backTo cpos (starEach [e, f] X.env)).all (fun x => !x.1) && (backToKw cpos (keywordEach [] X.env)).all (fun x => x.1.isSome)
    && decide (([e, f] : List Expr).length + ([] : List Keyword).length + (if ([] : List Keyword).isEmpty then 0 else 1) < 30)) = true
  line : (apos.endLine == cpos.line) = true
  trees : backTo cpos (starEach [e, f] X.env) = [(false, eval e X.env), (false, eval f X.env)]

/-- a is a dict, whatever its keys -/
def IsD (H : Hp) (a : Addr) : Prop := (∃ kvs, Rd H a (.dK kvs)) ∨ ∃ kvs, Rd H a (.dT kvs)
section
variable {X : Cx} {pins : List (Addr × Obj)} {σ : St} {H : Hp} {s : Shared} {a : Addr} {y d : V} {u r : Value} {o : Option V} {A : Around} {E : Value → Shared → Prop}
end

def tDGet1 (td ty : TE) : TE := fun σ H Q => td σ H fun x H1 => ∃ a, x = .ref a ∧ IsD H1 a ∧ ty σ H1 fun y H2 => ∃ o, DGet H2 a y o ∧ Q (o.getD .non) H2
def tDGet2 (td ty tx : TE) : TE := fun σ H Q => td σ H fun x H1 => ∃ a, x = .ref a ∧ IsD H1 a ∧ ty σ H1 fun y H2 => tx σ H2 fun z H3 => ∃ o, DGet H3 a y o ∧ Q (o.getD z) H3
/-- d.pop(k): there; d.pop(k, x): there or not -/
def tDPop1 (td ty : TE) : TE := fun σ H Q => td σ H fun x H1 => ∃ a, x = .ref a ∧ IsD H1 a ∧ ty σ H1 fun y H2 => ∃ kvs k v, H2 a = some (.dK kvs) ∧ y = kV k ∧ valV kvs k = some v ∧ Q v (upd H2 a (.dK (dropK kvs k)))
def tDPop2 (td ty tx : TE) : TE := fun σ H Q => td σ H fun x H1 => ∃ a, x = .ref a ∧ IsD H1 a ∧ ty σ H1 fun y H2 => tx σ H2 fun z H3 => ∃ kvs k, H3 a = some (.dK kvs) ∧ y = kV k ∧
  (∀ v, valV kvs k = some v → Q v (upd H3 a (.dK (dropK kvs k)))) ∧ (valV kvs k = none → Q z H3)
section
variable {X : Cx} {o e f : Expr} {apos cpos : Pos} {td ty tx : TE}
end

/-! ### dict(d): a copy -/
section
variable {X : Cx} {pins : List (Addr × Obj)} {σ : St} {H : Hp} {s : Shared} {a : Addr} {kvs : List (Key × V)} {A : Around} {E : Value → Shared → Prop}
end


section
variable {X : Cx} {pins : List (Addr × Obj)} {σ : St} {H : Hp} {s : Shared} {a : Addr} {y : V} {u : Value} {A : Around} {E : Value → Shared → Prop}
end
end L2

namespace L2
open PySem PySem.Spec PyProof.Rows

section
variable {prog : Program} {w : World} {A : Around} {E : Value → Shared → Prop}
end

section
variable {X : Cx}
end
end L2

namespace L2
open PySem PySem.Spec PyProof.Rows

section
variable {X : Cx} {pins : List (Addr × Obj)} {σ : St} {H : Hp} {s : Shared} {h' : Heap}
/-- .. and one new object is laid -/
theorem Inv.turnedNew {t' : Nat} {ch : List Addr} {T : Addr} {ob : HO} (I : Inv X pins σ H s) (k : ∀ b o, b ∉ ch → s.heap.get? b = some o → h'.get? b = some o) (hf : ∀ b ∈ ch, FpOk X pins H b) (hT : s.heap.objs.size ≤ T)
    (new : ObjOk X.prog X.w (upd H T ob) h' T ob) : Inv X pins σ (upd H T ob) { s with heap := h', toks := t' } := by
  have hn : H T = none := I.hok.fresh hT
  have nit : ∀ b u, H b = some u → b ∉ ch := fun b u e z => by
    have q := (hf b z).1
    rw [q] at e; cases e
  refine I.step (g' := s.gens) (d' := s.drawn) (ch := ch) (fun b hb => ⟨(hf b hb).2.2.2.1, (hf b hb).2.1, (hf b hb).2.2.2.2.1, (hf b hb).2.2.2.2.2⟩) (fun b o _ _ hc e _ => k b o hc e) (fun b o _ _ hc e _ => ⟨o.slots, k b o hc e⟩)
    (fun b o _ e n => ?_) (fun b o hc e => ⟨o, k b o hc e⟩) (fun b xs e => ?_) (fun b o u e => ?_) (fun b ps e => ⟨#[], ?_⟩) (fun m hm => ?_) (fun b u e => ?_) I.bare
  · rw [upd_ne (Nat.ne_of_lt (Nat.lt_of_lt_of_le (Heap.lt_size e) hT))]; exact n
  · rw [upd_ne (ne_of_none e hn)]; exact e
  · rw [upd_ne (ne_of_none e hn)]; exact e
  · rw [upd_ne (ne_of_none e hn), e]; simp
  · obtain ⟨o, es, ep, ho, r⟩ := hm
    exact ⟨o, es, ep, k _ o (fun z => (hf _ z).2.1 rfl) ho, r⟩
  · by_cases hb : b = T
    · subst hb
      rw [upd_same] at e
      cases e
      exact new
    · rw [upd_ne hb] at e
      refine (I.hok b u e).stay (fun c v hc q => k c v ?_ q) (fun c q => by rw [upd_ne (ne_of_none q hn)]; exact q) fun c xs _ q => by rw [upd_ne (ne_of_none q hn)]; exact q
      rcases hc with z | z
      · rw [z]; exact nit b u e
      · exact nit c _ z

/-! ### locking a thing while a statement runs -/
end
/-- the statement runs while the thing at d is locked (read, not written); d and what stands there are the reading's choice -/
def tLock (t : TS) : TS := fun D σ H => ∃ d u, H d = some u ∧ Mut (some u) ∧ ∀ od, t ⟨fun σ' H' => H' d = some (.frz od u) ∧ D.nx σ' (upd H' d u), fun v H' => H' d = some (.frz od u) ∧ D.rt v (upd H' d u), fun σ' H' => H' d = some (.frz od u) ∧ D.bk σ' (upd H' d u), fun σ' H' => H' d = some (.frz od u) ∧ D.ct σ' (upd H' d u)⟩ σ (upd H d (.frz od u))
def tLockE (t : TE) : TE := fun σ H Q => ∃ d u, H d = some u ∧ Mut (some u) ∧ ∀ od, t σ (upd H d (.frz od u)) fun v H' => H' d = some (.frz od u) ∧ Q v (upd H' d u)
section
variable {X : Cx}
/-! ### one iterator just laid -/
theorem pi_one {tg : Expr} {pins : List (Addr × Obj)} {σ : St} {H : Hp} {s : Shared} {R : It → Hp → Prop} {J : It} {tn : Nat → Heap → Prop} {tk : Nat} (I : Inv X pins σ H s) (o : Obj)
    (T : Turn X.prog X.w X.K tg J [s.heap.objs.size] s.heap.objs.size tn) (st : tn 0 (s.heap.push o)) (q : R J H) : PIE X pins σ tg R (.ref s.heap.objs.size) { s with heap := s.heap.push o, toks := tk } := by
  refine ⟨s.heap.objs.size, [s.heap.objs.size], tn, J, H, rfl, I.kept fun b ob e => Heap.get?_push_of_some _ e, T, st, fun b hb => ?_, q⟩
  have e : b = s.heap.objs.size := by simpa using hb
  subst e
  exact I.fpOk (Nat.le_refl _) (I.hok.fresh (Nat.le_refl _))
end

/-! ### range with a step -/
/-- lo, lo + c, .. (n of them) -/
def Itc (lo c : Int) (n : Nat) : It := ⟨fun i _ => i < n, fun i H x H' => H' = H ∧ x = .int (lo + (i : Nat) * c), fun i _ => n ≤ i⟩
/-- range(i, j, c): small bounds, n items -/
def RgC (i j c : Int) (n : Nat) : Prop := c ≠ 0 ∧ c.natAbs < 1073741824 ∧ Builtin.Range.small i j c = true ∧ Builtin.Range.rangeSize i j c = n
def iRng3 (ta : TA) : TI := fun σ H R => ta σ H fun vs H1 => ∃ (i j c : Int) (n : Nat), vs = [.int i, .int j, .int c] ∧ RgC i j c n ∧ R (Itc i c n) H1
section
variable {X : Cx} {tg : Expr}
end
/-! ### reversed(list) -/
/-- the list at a (n items at the start, which the loop leaves there), from its end -/
def Itv (K : PySem.W.Frag) (a : Addr) (n : Nat) : It :=
  ⟨fun i H => i < n ∧ ∃ (xs : List V) (x : V), SqL K H a xs ∧ xs[n - 1 - i]? = some x, fun i H x H' => H' = H ∧ ∀ xs, SqL K H a xs → xs[n - 1 - i]? = some x, fun i _ => n ≤ i⟩
def iRev (K : PySem.W.Frag) (ta : TA) : TI := fun σ H R => ta σ H fun vs H1 => ∃ (a : Addr) (xs : List V), vs = [.ref a] ∧ SqL K H1 a xs ∧ R (Itv K a xs.length) H1
section
variable {X : Cx} {tg : Expr}
end

/-! ### a str -/
def Its (x : Str) : It := ⟨fun i _ => i < x.cps.size, fun i H v H' => H' = H ∧ ∃ c, x.cps[i]? = some c ∧ v = .str ⟨#[c]⟩, fun i _ => x.cps.size ≤ i⟩
theorem turn_str {P : Program} {w : World} {K : PySem.W.Frag} {tg : Expr} (it : Addr) (x : Str) (t : Tok) (ty : String) (hty : ty = "str_ascii_iterator" ∨ ty = "str_iterator") :
    Turn P w K tg (Its x) [it] it (fun i h => h.IsStrIter it ty x t i) where
  mem := by simp
  obj := fun i h st b hb => by
    have e : b = it := by simpa using hb
    subst e
    obtain ⟨o, e, c, d⟩ := st
    exact ⟨o, e, fun v z => by rw [d] at z; cases z⟩
  keep := fun i h h' st k => let ⟨o, ho, r⟩ := st; ⟨o, k it (by simp) o ho, r⟩
  item := by
    intro X hP hw hK hc i pins s σ H E I hf st hg
    subst hP hw hK
    obtain ⟨f0, f1, f2, f3, f4, f5⟩ := hf it (by simp)
    have W : Walks X.prog X.w X.A it [it] [it] x.cps.size (SignAt x) (fun i h => h.IsStrIter it ty x t i) := by
      rcases hty with e | e
      · rw [e]; exact Walks.strAscii (I.ok.hd hc) it x t
      · rw [e]; exact Walks.strWide (I.ok.hd hc) it x t
    have hno : ["enumerate", "zip", "dict_itemiterator", "dict_reverseitemiterator", "odict_iterator", "itertools.zip_longest", "itertools.pairwise"].contains ty = false := by
      rcases hty with e | e
      · rw [e]; decide
      · rw [e]; decide
    refine W.item i s _ _ hg st fun v h' tk hv st' kk => ?_
    obtain ⟨c, u, hcx, rfl⟩ := hv
    have I1 : Inv X pins σ H { s with heap := h', toks := tk } := I.turned (fun b o hb e => kk b o (by simpa using hb) e) f0 f1 f3 f4 f5
    obtain ⟨oi, e, cc, dd⟩ := id st'
    exact ⟨_, rfl, go_of (s := { s with heap := h', toks := tk }) e cc dd hno ⟨.str ⟨#[c]⟩, H, I1, ⟨u, rfl⟩, ⟨rfl, c, hcx, rfl⟩, st', fun b hb => (hf b hb).1⟩⟩
  done := by
    intro X hP hw hK hc i pins s σ H E I hf st hg
    subst hP hw hK
    obtain ⟨f0, f1, f2, f3, f4, f5⟩ := hf it (by simp)
    have hx : x.cps[i]? = none := Array.getElem?_eq_none hg
    rcases hty with e | e
    · rw [e] at st
      exact wpAny_pyNext_ascii_end (I.ok.hd hc) st hx fun h' eb => ⟨rfl, I.turned (t' := s.toks) (fun b o hb e => eb b o hb e) f0 f1 f3 f4 f5⟩
    · rw [e] at st
      exact wpAny_pyNext_wide_end (I.ok.hd hc) st hx fun h' eb => ⟨rfl, I.turned (t' := s.toks) (fun b o hb e => eb b o hb e) f0 f1 f3 f4 f5⟩
  self := fun A i s Q E st h => by
    rcases hty with e | e
    · rw [e] at st; exact wpAny_pyIter_striter_ascii st h
    · rw [e] at st; exact wpAny_pyIter_striter_wide st h
def iStr (te : TE) : TI := fun σ H R => te σ H fun v H1 => ∃ x, v = .str x ∧ R (Its x) H1
theorem pi_str {X : Cx} {tg e : Expr} {te : TE} (he : PE X e te) : PI X tg e (iStr te) := by
  intro pins s σ H R I h
  refine thn (he pins s σ H _ I h) fun v s1 ⟨y, H1, I1, r1, x, ex, q⟩ => ?_
  subst ex
  obtain ⟨t, rfl⟩ := r1
  cases ha : x.cps.all (· < 128)
  · exact wpAny_pyIter_wide ha (pi_one (tk := s1.toks) I1 _ (turn_str _ x t "str_iterator" (.inr rfl)) ⟨_, Heap.get?_push_size _ rfl, rfl, rfl⟩ q)
  · exact wpAny_pyIter_ascii ha (pi_one (tk := s1.toks) I1 _ (turn_str _ x t "str_ascii_iterator" (.inl rfl)) ⟨_, Heap.get?_push_size _ rfl, rfl, rfl⟩ q)

/-! ### a dict's keys: any dict's entries -/
section
variable {prog : Program} {w : World} {A : Around} {E : Value → Shared → Prop} {s : Shared}
end

/-! ### a locked dict -/
section
variable {X : Cx} {pins : List (Addr × Obj)} {σ : St} {H : Hp} {s : Shared} {d : Addr} {o : Obj}
end

/-- the keys of the locked dict at d, in their order -/
def Itk (d : Addr) (o : Obj) (kvs : List (Key × V)) : It :=
  ⟨fun i H => H d = some (.frz o (.dK kvs)) ∧ i < kvs.length, fun i H x H' => H' = H ∧ ∃ k v, kvs[i]? = some (k, v) ∧ x = kV k, fun i H => H d = some (.frz o (.dK kvs)) ∧ kvs.length ≤ i⟩
/-- .. of tuple keys: the key's own tuple -/
def Itkt (d : Addr) (o : Obj) (kvs : List (List Key × V)) : It :=
  ⟨fun i H => H d = some (.frz o (.dT kvs)) ∧ i < kvs.length, fun i H x H' => H' = H ∧ ∃ (k : List Key) (v : V) (q : Addr), kvs[i]? = some (k, v) ∧ x = .ref q ∧ H q = some (.tup (k.map kV)), fun i H => H d = some (.frz o (.dT kvs)) ∧ kvs.length ≤ i⟩
/-- the values -/
def Itd (d : Addr) (o : Obj) (kvs : List (Key × V)) : It :=
  ⟨fun i H => H d = some (.frz o (.dK kvs)) ∧ i < kvs.length, fun i H x H' => H' = H ∧ ∃ k, kvs[i]? = some (k, x), fun i H => H d = some (.frz o (.dK kvs)) ∧ kvs.length ≤ i⟩
/-- the pairs, each a new tuple -/
def Iti (d : Addr) (o : Obj) (kvs : List (Key × V)) : It :=
  ⟨fun i H => H d = some (.frz o (.dK kvs)) ∧ i < kvs.length, fun i H x H' => ∃ T k v, kvs[i]? = some (k, v) ∧ x = .ref T ∧ H T = none ∧ H' = upd H T (.tup [kV k, v]), fun i H => H d = some (.frz o (.dK kvs)) ∧ kvs.length ≤ i⟩
section
variable {P : Program} {w : World} {K : PySem.W.Frag} {tg : Expr} {d : Addr} {o : Obj} {es : Array DictEntry} {ep : Nat}
end

/-! ### for k in d, d.keys(), d.values(), d.items() -/
/-- the dict is locked (tLock, or by the caller) -/
def iKeys (td : TE) : TI := fun σ H R => td σ H fun x H1 => ∃ d o, x = .ref d ∧ ((∃ kvs, H1 d = some (.frz o (.dK kvs)) ∧ R (Itk d o kvs) H1) ∨ ∃ kvs, H1 d = some (.frz o (.dT kvs)) ∧ R (Itkt d o kvs) H1)
def iVals (td : TE) : TI := fun σ H R => td σ H fun x H1 => ∃ d o kvs, x = .ref d ∧ H1 d = some (.frz o (.dK kvs)) ∧ R (Itd d o kvs) H1
def iItems (td : TE) : TI := fun σ H R => td σ H fun x H1 => ∃ d o kvs, x = .ref d ∧ H1 d = some (.frz o (.dK kvs)) ∧ R (Iti d o kvs) H1
def iKeysM (td : TE) : TI := fun σ H R => td σ H fun x H1 => ∃ d o kvs, x = .ref d ∧ H1 d = some (.frz o (.dK kvs)) ∧ R (Itk d o kvs) H1
section
variable {X : Cx} {tg e : Expr} {td : TE} {apos cpos : Pos}
end

/-! ### enumerate(list) -/
/-- the list at a as it stands at each turn, each item in a new pair -/
def Ite (K : PySem.W.Frag) (a : Addr) : It :=
  ⟨fun i H => ∃ (xs : List V) (x : V), SqL K H a xs ∧ xs[i]? = some x, fun i H v H' => ∃ T x, v = .ref T ∧ H T = none ∧ H' = upd H T (.tup [.int (i : Nat), x]) ∧ ∀ xs, SqL K H a xs → xs[i]? = some x, fun i H => ∃ xs : List V, SqL K H a xs ∧ xs.length ≤ i⟩
theorem turn_enum {P : Program} {w : World} {K : PySem.W.Frag} {elts : List Expr} {kk : Nat} {tpos : Pos} (a e it : Addr) :
    Turn P w K (.Tuple elts kk tpos) (Ite K a) [e, it] e (fun i h => (∃ old, IsEnum h e it ((i : Nat) : Int) old) ∧ h.IsListIter it a i ∧ e ≠ it) where
  mem := by simp
  obj := fun i h st b hb => by
    obtain ⟨⟨old, he⟩, ⟨o, ho, hc, hd⟩, _⟩ := st
    have e' : b = e ∨ b = it := by simpa using hb
    rcases e' with z | z
    · rw [z]; exact ⟨_, he, fun v q => nomatch q⟩
    · rw [z]; exact ⟨o, ho, fun v q => by rw [hd] at q; cases q⟩
  keep := fun i h h' st k => let ⟨⟨old, he⟩, hi, hne⟩ := st; ⟨⟨old, k e (by simp) _ he⟩, hi.at fun o q => k it (by simp) o q, hne⟩
  item := by
    intro X hP hw hK hc i pins s σ H E I hf st hg
    subst hP hw hK
    obtain ⟨⟨old, he⟩, hit, hne⟩ := st
    obtain ⟨xs, x, hq, hx⟩ := hg
    obtain ⟨its, rv, p, hz⟩ := I.list hq
    obtain ⟨u, hu, ru⟩ := rv.get hx
    have hel : e < s.heap.objs.size := Heap.lt_size he
    have hil : it < s.heap.objs.size := by obtain ⟨_, q, _⟩ := hit; exact Heap.lt_size q
    refine wpAny_pyNext_enum_item he hit p.isList (x := u) (by simpa using hu) hne fun h' ho hit' hT hsz hk => ?_
    refine ⟨_, rfl, wpAny_letOwnedTupleGo_enum (s := { s with heap := h', toks := s.toks + 1 }) ho fun h'' he' sb => ?_⟩
    have hT2 : h''.get? s.heap.objs.size = some { cls := .type "tuple", data := .seq #[.int i s.toks, u] } := (sb.2 _ (Nat.ne_of_gt hel)).trans hT
    have new : ObjOk X.prog X.w (upd H s.heap.objs.size (.tup [.int (i : Nat), x])) h'' s.heap.objs.size (.tup [.int (i : Nat), x]) :=
      ⟨by show 2 ≤ sizeLine; decide, [.int i s.toks, u], .cons ⟨_, rfl⟩ (.cons ru .nil), ⟨_, hT2, rfl, _, rfl⟩⟩
    have I1 : Inv X pins σ (upd H s.heap.objs.size (.tup [.int (i : Nat), x])) { s with heap := h'', toks := s.toks + 1 } :=
      I.turnedNew (ch := [e, it]) (fun b ob hb q => (sb.2 b (fun z => hb (by simp [z]))).trans (hk b ob (fun z => hb (by simp [z])) (fun z => hb (by simp [z])) q)) hf (Nat.le_refl _) new
    refine ⟨.ref s.heap.objs.size, _, I1, rfl, ⟨_, x, rfl, I.hok.fresh (Nat.le_refl _), rfl, fun ys hy => by rw [I.list_inj hy hq]; exact hx⟩, ⟨⟨u, ?_⟩, hit'.at fun o q => (sb.2 it (Ne.symm hne)).trans q, hne⟩, fun b hb => ?_⟩
    · have e1 : ((i + 1 : Nat) : Int) = (i : Int) + 1 := by omega
      rw [e1]; exact he'
    · have hb' : b < s.heap.objs.size := by
        have e' : b = e ∨ b = it := by simpa using hb
        rcases e' with z | z
        · rw [z]; exact hel
        · rw [z]; exact hil
      rw [upd_ne (Nat.ne_of_lt hb')]
      exact (hf b hb).1
  done := by
    intro X hP hw hK hc i pins s σ H E I hf st hg
    subst hP hw hK
    obtain ⟨⟨old, he⟩, hit, hne⟩ := st
    obtain ⟨xs, hq, hx⟩ := hg
    obtain ⟨its, rv, p, hz⟩ := I.list hq
    obtain ⟨f0, f1, f2, f3, f4, f5⟩ := hf it (by simp)
    have hl := rv.length
    exact wpAny_pyNext_enum_end (I.ok.hd hc) he hit p.isList (by simp; omega) fun h' eb => ⟨rfl, I.turned (t' := s.toks) (fun b o hb q => eb b o hb q) f0 f1 f3 f4 f5⟩
  self := fun A i s Q E st h => let ⟨⟨_, he⟩, _⟩ := st; wpAny_pyIter_enum he h
def iEnum (K : PySem.W.Frag) (ta : TA) : TI := fun σ H R => ta σ H fun vs H1 => ∃ a xs, vs = [.ref a] ∧ SqL K H1 a xs ∧ R (Ite K a) H1
/-! ### zip(list, list) -/
/-- the lists at a and b as they stand at each turn, the items in new pairs -/
def Itz (K : PySem.W.Frag) (a b : Addr) : It :=
  ⟨fun i H => ∃ (xs ys : List V) (x y : V), SqL K H a xs ∧ SqL K H b ys ∧ xs[i]? = some x ∧ ys[i]? = some y,
    fun i H v H' => ∃ T x y, v = .ref T ∧ H T = none ∧ H' = upd H T (.tup [x, y]) ∧ (∀ xs, SqL K H a xs → xs[i]? = some x) ∧ ∀ ys, SqL K H b ys → ys[i]? = some y,
    fun i H => ∃ xs ys : List V, SqL K H a xs ∧ SqL K H b ys ∧ (xs.length ≤ i ∨ ys.length ≤ i)⟩
def iZip (K : PySem.W.Frag) (ta : TA) : TI := fun σ H R => ta σ H fun vs H1 => ∃ a b xs ys, vs = [.ref a, .ref b] ∧ SqL K H1 a xs ∧ SqL K H1 b ys ∧ R (Itz K a b) H1
end L2

section 
namespace Bits
open PySem PyProof.Rows

end Bits
end 

section 
namespace TL
open PySem PySem.Builtin PySem.Builtin.Str PySem.StrLaws

abbrev tl (x : Str) : List Nat := x.cps.toList
theorem tl_append (x y : Str) : tl (x ++ y) = tl x ++ tl y := by
  show (x ++ y).cps.toList = _
  rw [Str.cps_append, Array.toList_append]
/-! ### the list functions -/
/-- S stands at the head of l -/
def pre (S l : List Nat) : Bool := l.take S.length == S
/-- l cut at each S from the left; k signs are still to be passed over -/
def spl (S : List Nat) : Nat → List Nat → List Nat → List (List Nat)
  | _, acc, [] => [acc]
  | 0, acc, c :: r => if pre S (c :: r) = true then acc :: spl S (S.length - 1) [] r else spl S 0 (acc ++ [c]) r
  | k + 1, acc, _ :: r => spl S k acc r
/-- what stands before the first S, and behind it -/
def par (S : List Nat) : List Nat → List Nat → Option (List Nat × List Nat)
  | _, [] => none
  | acc, c :: r => if pre S (c :: r) = true then some (acc, (c :: r).drop S.length) else par S (acc ++ [c]) r

/-! ### the model's split and partition are these -/
/-! ### computing spl and par -/
/-- joined lists -/
def joinL (S : List Nat) : List (List Nat) → List Nat
  | [] => []
  | [p] => p
  | p :: q :: r => p ++ (S ++ joinL S (q :: r))
theorem tl_join (y : Str) : ∀ parts : List Str, tl (Str.join y parts) = joinL (tl y) (parts.map tl)
  | [] => rfl
  | [_] => rfl
  | x :: z :: r => by
    show tl (x ++ y ++ Str.join y (z :: r)) = tl x ++ (tl y ++ joinL (tl y) ((z :: r).map tl))
    rw [tl_append, tl_append, tl_join y (z :: r), List.append_assoc]
theorem join_eq (y : Str) (parts : List Str) : Txt.join y parts = Str.join y parts := glued_eq_join y parts
/-! ### digits -/
/-- the signs of a number -/
def numL (n : Nat) : List Nat := (Nat.toDigits 10 n).map Char.toNat
/-! ### words: x.split() -/
def wstep (st : List (List Nat) × List Nat) (c : Nat) : List (List Nat) × List Nat :=
  if Unicode.isSpace c = true then (if st.2 = [] then st else (st.1 ++ [st.2], [])) else (st.1, st.2 ++ [c])
def wfin (st : List (List Nat) × List Nat) : List (List Nat) := if st.2 = [] then st.1 else st.1 ++ [st.2]
end TL
end 

namespace L2
open PySem PySem.Spec PyProof.Rows

theorem strs_of_vals : ∀ {ys : List Str} {us : List Value}, Vals (ys.map V.str) us → StrsAre us ys
  | [], _, .nil => .nil
  | y :: ys, _, .cons r t => by
    obtain ⟨k, rfl⟩ := r
    exact .cons y k (strs_of_vals t)

/-- a new list of texts, tracked -/
def rNewStrs (ys : List Str) : Hp → VK → Prop := fun H Q => ∀ p, H p = none → Q (.ref p) (upd H p (.lst (ys.map V.str)))

section
variable {X : Cx} {pins : List (Addr × Obj)} {σ : St} {H : Hp} {s : Shared} {Q : VK}
end

section
variable {X : Cx}

/-- sep.join(a list | a tuple of texts) -/
theorem mt_join : MtR X "str.join" (fun x xs H Q => ∃ a p, ∃ ys : List Str, x = .str a ∧ xs = [.ref p] ∧ (SqL X.K H p (ys.map V.str) ∨ SqT X.K H p (ys.map V.str)) ∧
    (ys.map (·.length)).sum + ys.length * a.length ≤ 16777216 ∧ Q (.str (Txt.join a ys)) H) := by
  intro pins s σ H x xs v us Q I rx rs h
  obtain ⟨a, p, ys, rfl, rfl, hp, hz, h⟩ := h
  obtain ⟨t, rfl⟩ := rx
  cases rs with
  | cons r1 rs =>
    cases rs
    cases r1
    rcases hp with hp | hp
    · obtain ⟨its, r, ⟨o, n, ho, hc, _, hd⟩, _⟩ := I.list hp
      exact PyProof.Rows.join_list (items := its.toArray) ⟨o, ho, hc, n, hd⟩ (by rw [List.toList_toArray]; exact strs_of_vals r) hz fun t' k => ⟨.str _, H, I.tok k, ⟨t', rfl⟩, h⟩
    · obtain ⟨its, r, ht, _⟩ := I.tuple hp
      exact PyProof.Rows.join_tuple (items := its.toArray) ht (by rw [List.toList_toArray]; exact strs_of_vals r) hz fun t' k => ⟨.str _, H, I.tok k, ⟨t', rfl⟩, h⟩

/-! ### of a text alone -/
/-! ### of a text and a text -/
end

section
variable {X : Cx} {o e : Expr} {to te : TE}
def tM0 (r : V → List V → Hp → VK → Prop) (to : TE) : TE := fun σ H Q => to σ H fun x H1 => (∃ a, x = .str a) ∧ r x [] H1 Q
def tM1 (r : V → List V → Hp → VK → Prop) (to te : TE) : TE := fun σ H Q => to σ H fun x H1 => (∃ a, x = .str a) ∧ te σ H1 fun y H2 => r x [y] H2 Q
theorem pe_m1 {id : String} {name : Str} {apos pos : Pos} {r : V → List V → Hp → VK → Prop} (slot : Slot "str" name id) (ty : typeOf (.builtin id) = pure (.type "method_descriptor")) (rule : MtR X id r) (ho : PE X o to) (he : PE X e te)
    (hs : starEach [e] X.env = [(false, eval e X.env)] := by rfl) (hbase : attributeBase o name X.env (eval o X.env) = eval o X.env := by rfl) (hline : (apos.endLine == pos.line) = true := by rfl) :
    PE X (.Call (.Attribute o name apos) [e] [] pos) (tM1 r to te) := by
  intro pins s σ H Q I h
  refine PySem.Call_method1 hbase hs hline (thn (ho pins s σ H _ I h) fun v s1 ⟨x, H1, I1, r1, q1⟩ => ?_)
  obtain ⟨⟨a, rfl⟩, q1⟩ := q1
  obtain ⟨t, rfl⟩ := _root_.id r1
  refine ⟨"str", _, F.plainAttrs_str, slot, ty, typeIs_str _ _ _, (fun _ e => nomatch e), Calls.callWith_builtin rfl (Calls.evalArgs_plain (Calls.spliced_cons ?_))⟩
  exact thn (he pins s1 σ H1 _ I1 q1) fun u s2 ⟨y, H2, I2, r2, q2⟩ => Calls.spliced_nil (rule pins s2 σ H2 _ [y] _ [u] Q I2 r1 (.cons r2 .nil) q2)

theorem pe_join {apos pos : Pos} (ho : PE X o to) (he : PE X e te) (hs : starEach [e] X.env = [(false, eval e X.env)] := by rfl) (hbase : attributeBase o "join" X.env (eval o X.env) = eval o X.env := by rfl) (hline : (apos.endLine == pos.line) = true := by rfl) :
    PE X (.Call (.Attribute o "join" apos) [e] [] pos) (tM1 (fun x xs H Q => ∃ a p, ∃ ys : List Str, x = .str a ∧ xs = [.ref p] ∧ (SqL X.K H p (ys.map V.str) ∨ SqT X.K H p (ys.map V.str)) ∧
      (ys.map (·.length)).sum + ys.length * a.length ≤ 16777216 ∧ Q (.str (Txt.join a ys)) H) to te) :=
  pe_m1 F.slot_str_join F.type_str_join mt_join ho he hs hbase hline
end
end L2

namespace L2
open PySem PySem.Spec PyProof.Rows

section
variable {X : Cx}
/-- one sign in a text -/
theorem op_in_sign : OpR X (compareOp .In) (fun x y H Q => ∃ (c : Nat) (z : Str), x = .str ⟨#[c]⟩ ∧ y = .str z ∧ Q (.bl (decide (c ∈ z.cps.toList))) H) := by
  intro pins s σ H x y v u Q I rx ry h
  obtain ⟨c, z, rfl, rfl, q⟩ := h
  obtain ⟨t, rfl⟩ := rx
  obtain ⟨t', rfl⟩ := ry
  exact PyProof.Rows.in_str (fin_bl I q (PySem.StrLaws.found_one z c).symm)
theorem op_notIn_sign : OpR X (compareOp .NotIn) (fun x y H Q => ∃ (c : Nat) (z : Str), x = .str ⟨#[c]⟩ ∧ y = .str z ∧ Q (.bl (!decide (c ∈ z.cps.toList))) H) := by
  intro pins s σ H x y v u Q I rx ry h
  obtain ⟨c, z, rfl, rfl, q⟩ := h
  obtain ⟨t, rfl⟩ := rx
  obtain ⟨t', rfl⟩ := ry
  exact PyProof.Rows.notIn_str (fin_bl I q (congrArg Bool.not (PySem.StrLaws.found_one z c).symm))
end

/-! ### slices of a text -/
theorem IsPart.raw {v : Value} {o : Option Int} (p : IsPart v o) : ∃ l : Option (Int × Tok), v = partValue l ∧ l.map (·.1) = o := by
  cases p with
  | none => exact ⟨none, rfl, rfl⟩
  | int i t => exact ⟨some (i, t), rfl, rfl⟩

/-- a part, clipped, as the text's slice reckons it -/
def clipS (n d : Nat) : Option Int → Int
  | none => (d : Int)
  | some i => max 0 (min (if i < 0 then i + (n : Int) else i) (n : Int))
theorem clipS_eq (n d : Nat) (o : Option Int) : clipS n d o = ((HT.sIx n d o : Nat) : Int) := by
  cases o with
  | none => rfl
  | some v =>
    show max (0 : Int) (min (if v < 0 then v + (n : Int) else v) (n : Int)) = (((if v < 0 then (v + (n : Int)).toNat else min v.toNat n) : Nat) : Int)
    by_cases hv : v < 0
    · simp only [if_pos hv]
      omega
    · simp only [if_neg hv]
      omega
theorem sidx_clip (a b : Option Int) (n : Nat) : Builtin.Str.strSliceIndices a b 1 n = sliceRange (clipS n 0 a) (clipS n n b) 1 := by
  have h1 : ((1 : Int) > 0) = True := by simp
  cases a <;> cases b <;> first
    | rfl
    | (simp only [Builtin.Str.strSliceIndices, clipS, h1, if_true]; rfl)
    | simp [Builtin.Str.strSliceIndices, clipS]
theorem sidx (a b : Option Int) (n : Nat) : Builtin.Str.strSliceIndices a b 1 n = (List.range (HT.sIx n n b - HT.sIx n 0 a)).map (fun k => HT.sIx n 0 a + k) := by
  rw [sidx_clip, clipS_eq, clipS_eq]
  generalize HT.sIx n 0 a = p
  generalize HT.sIx n n b = q
  simp only [sliceRange, show ((1 : Int) > 0) = True from by simp, if_true]
  by_cases hlt : (p : Int) < q
  · have e3 : (((q : Int) - p + 1 - 1) / 1).toNat = q - p := by first | omega | (simp; done) | (simp; omega)
    simp only [hlt, if_true, e3]
    refine List.map_congr_left fun k _ => ?_
    omega
  · have : q - p = 0 := by omega
    simp [hlt, this]

/-- z[lo:hi] -/
def cutS (z : Str) (lo hi : Option Int) : Str :=
  ⟨((z.cps.toList.drop (HT.sIx z.length 0 lo)).take (HT.sIx z.length z.length hi - HT.sIx z.length 0 lo)).toArray⟩
theorem sliceText_cut (z : Str) (lo hi : Option Int) : PySem.StrLaws.sliceText z lo hi = cutS z lo hi := by
  have h1 : HT.sIx z.length 0 lo ≤ z.length := HT.sIx_le _ _ (Nat.zero_le _) _
  have h2 : HT.sIx z.length z.length hi ≤ z.length := HT.sIx_le _ _ (Nat.le_refl _) _
  have hp : HT.sIx z.length 0 lo ≤ max (HT.sIx z.length 0 lo) (HT.sIx z.length z.length hi) := Nat.le_max_left _ _
  have hq : max (HT.sIx z.length 0 lo) (HT.sIx z.length z.length hi) ≤ z.length := Nat.max_le.mpr ⟨h1, h2⟩
  have hd : max (HT.sIx z.length 0 lo) (HT.sIx z.length z.length hi) - HT.sIx z.length 0 lo = HT.sIx z.length z.length hi - HT.sIx z.length 0 lo := by omega
  have e : Builtin.Str.strSliceIndices lo hi 1 z.length =
      Builtin.Str.strSliceIndices (some ((HT.sIx z.length 0 lo : Nat) : Int)) (some ((max (HT.sIx z.length 0 lo) (HT.sIx z.length z.length hi) : Nat) : Int)) 1 z.length := by
    rw [PySem.StrLaws.strSliceIndices_plain hp hq, hd, sidx]
  have e2 : PySem.StrLaws.sliceText z lo hi =
      PySem.StrLaws.sliceText z (some ((HT.sIx z.length 0 lo : Nat) : Int)) (some ((max (HT.sIx z.length 0 lo) (HT.sIx z.length z.length hi) : Nat) : Int)) := by
    unfold PySem.StrLaws.sliceText
    rw [e]
  rw [e2, PySem.StrLaws.sliceText_nat z hp hq, hd]
  rfl
theorem cutS_length (z : Str) (lo hi : Option Int) : (cutS z lo hi).length ≤ z.length := by
  show (((z.cps.toList.drop (HT.sIx z.length 0 lo)).take (HT.sIx z.length z.length hi - HT.sIx z.length 0 lo)).toArray).size ≤ z.cps.size
  rw [List.size_toArray, List.length_take, List.length_drop, Array.length_toList]
  omega
def rSlS : V → Option Int → Option Int → Hp → VK → Prop := fun x lo hi H Q => ∃ z, x = .str z ∧ z.length ≤ sizeLine ∧ Q (.str (cutS z lo hi)) H
theorem sl_str {X : Cx} : SlR X rSlS := by
  intro pins s σ H x v vl vu lo hi sl Q I rx hs pl pu h
  obtain ⟨z, rfl, hz, q⟩ := h
  obtain ⟨t, rfl⟩ := rx
  obtain ⟨os, hos, hcs, hds⟩ := hs
  obtain ⟨l, rfl, rfl⟩ := IsPart.raw pl
  obtain ⟨u, rfl, rfl⟩ := IsPart.raw pu
  refine ⟨"str", _, F.slot_str_getitem.lookup, typeIs_str _ _ _, ?_⟩
  refine wpAny_getItem_str_slice (l := l) (u := u) (st := none) ⟨os, hos, hcs, hds⟩ rfl ?_
  have hl : (PySem.StrLaws.sliceText z (l.map (·.1)) (u.map (·.1))).length ≤ sizeLine := by
    rw [sliceText_cut]
    exact Nat.le_trans (cutS_length z _ _) hz
  rw [← sliceText_cut] at q
  unfold PySem.StrLaws.sliceText at q hl
  show Made.post (if ((1 : Int) == 1 && (Builtin.Str.strSliceIndices (l.map (·.1)) (u.map (·.1)) 1 z.length).length == z.length) = true then Made.val (.str z t)
    else Made.str ⟨((Builtin.Str.strSliceIndices (l.map (·.1)) (u.map (·.1)) 1 z.length).filterMap (z.cps[·]?)).toArray⟩) (EP X pins σ Q) s
  by_cases c : ((1 : Int) == 1 && (Builtin.Str.strSliceIndices (l.map (·.1)) (u.map (·.1)) 1 z.length).length == z.length) = true
  · rw [if_pos c] at q ⊢
    exact ⟨.str z, H, I, ⟨t, rfl⟩, q⟩
  · rw [if_neg c] at q hl ⊢
    exact ⟨hl, .str _, H, I.tok _, ⟨_, rfl⟩, q⟩
end L2

namespace Att
open PySem PySem.W PySem.Calls PyProof.Rows

/-! ### the script -/
theorem ints_of_wellAll {P : Params} {h : Heap} : ∀ (ns : List Int) (vs : List Value), WellAll P h vs (ns.map WData.int) → IntsAre vs ns := by
  intro ns
  induction ns with
  | nil =>
    intro vs w
    rw [List.map_nil] at w
    cases w
    exact .nil
  | cons n ns ih =>
    intro vs w
    rw [List.map_cons] at w
    cases w with
    | cons a b =>
      cases a
      exact .cons _ _ (ih _ b)

theorem script_of {l : OpenLaw} {n : Nat} (hn : l.most = some n) {P : Params} {h : Heap} {args : List WData} {vals : List Value}
    (hpre : l.row.toRowW.claim.pre args = true) (hwl : WellAll P h vals args) :
    ∃ a vs ns, vals = [Value.ref a] ∧ args = [WData.list (ns.map WData.int)] ∧ h.get? a = some { cls := .type "list", data := .seq vs.toArray } ∧ IntsAre vs ns ∧ ns.length ≤ n := by
  have hsh : WShape.hasAll [] args [.list .int] = true := (pre_splitW hpre).1
  have hc : l.pre.holds [] { args := args } = true := (pre_splitW hpre).2
  obtain ⟨d, r, rfl, h1, h2⟩ := hasAllW_cons hsh
  obtain rfl := hasAllW_nil h2
  obtain ⟨xs, rfl, h3⟩ := hasW_list h1
  obtain ⟨ns, rfl⟩ := items_int h3
  have hlen : ns.length ≤ n := by
    unfold OpenLaw.pre at hc
    have h4 : (WTm.not (.lt (.lit (.int (n : Int))) (.len (.arg 0)))).holds [] { args := [.list (ns.map .int)] } = true := by
      have h4 := (holds_andW hc).1
      rw [hn] at h4
      exact h4
    have h5 := condW_of h4 (w_not (w_lt w_lit (w_len_list (w_arg rfl))))
    rw [List.length_map] at h5
    refine Nat.le_of_not_lt fun q => ?_
    have q' : (n : Int) < ((ns.length : Nat) : Int) := by omega
    first
      | (rw [decide_eq_true q'] at h5; exact absurd h5 (by decide))
      | (simp at h5; omega)
  cases hwl with
  | cons w1 w2 =>
    cases w2
    cases w1 with
    | list ho hall => exact ⟨_, _, ns, rfl, rfl, ho, ints_of_wellAll ns _ hall, hlen⟩

theorem post_true (l : OpenLaw) (args : List WData) : l.row.toRowW.claim.post args (.bool true) args = true :=
  postW_of (r := l.row.toRowW) (X := (true == true))
    (show WShape.has [] (.bool true) .bool = true by first | rfl | decide | simp [WShape.has, WShape.arms, WShape.armsAll])
    (show (WTm.eq .res (.lit (.bool true))).value [] { args := args, res := some (.bool true), after := args } = some (.bool (true == true)) from w_eq_bool (w_res rfl) w_lit) rfl

/-! ### the attachment: holds_open's last premise (the goal 'hc' behind k_head) from a wpAny of the law's body -/
/-- the same from a codeAny of the CALL (for a layer whose function contracts speak of calls) -/
theorem attach_call {l : OpenLaw} {n : Nat} {q : Program} {loose : List Str} {XP : (Str → Option Value) → Heap → Prop} {YP : World → Heap → Prop} {d : DefRec}
    (hn : l.most = some n) (hdf : d.params.defaults = [])
    (call : ∀ (w : World) (s₀ s₁ : Shared) (mg mb : Str → Option Value) (fa : Addr) (o : Obj) (pm cd doc : Value) (a : Addr) (vs : List Value) (ns : List Int),
      Ground q loose [] XP w s₀ mg mb s₁.heap → YP w s₁.heap →
      s₁.heap.get? fa = some o → o.data = .func (docDef d.name d.params d.body d.scope pm cd doc) → s₁.heap.CodeRec cd d.name → mg d.name = some (.ref fa) →
      s₁.heap.get? a = some { cls := .type "list", data := .seq vs.toArray } → IntsAre vs ns → ns.length ≤ n → s₁.gens = #[] →
      codeAny (model l.prog w) callerA (.call (.ref fa) ⟨[.ref a], []⟩) (fun r s' => r = .ok (.ret (.bool true)) ∧ OldK s₁.heap s'.heap ∧ s'.os = s₁.os ∧ AllBare s'.gens) s₁) :
    WalkO q loose XP YP l.row.toRowW d [] (fun f vs => PySem.call f vs) := by
  intro w s₀ s₁ mg mb G Y fa o pm cd doc dV kV ho hd hcd hD hmg hg args vals as hpre hlay hrd hwl hlo
  obtain rfl : dV = .none := Dflts.none hD hdf
  obtain rfl : kV = .none := Dflts.noKw hD
  obtain ⟨a, vs, ns, rfl, rfl, hobj, hints, hlen⟩ := script_of hn hpre hwl
  refine enter_call (codeAny_mono (call w s₀ s₁ mg mb fa o pm cd doc a vs ns G Y ho (fd_plain hd) hcd hmg hobj hints hlen hg) fun r s' hq => ?_)
  obtain ⟨rfl, h2, h3, h4⟩ := hq
  exact ⟨.inl ⟨.bool true, .bool true, [], rfl, fun _ => rfl, .bool true, post_true l _, fun _ => ⟨List.Pairwise.nil, fun _ hm => (nomatch hm)⟩⟩, h2, h3, h4⟩

/-! ### rules over ANY heap (no ledger) from facts about the written part K: the library's own take a ledger (News) for what they write -/
section
variable {prog : Program} {w : World} {A : Around} {E : Value → Shared → Prop} {s : Shared} {K : Frag}

/-! the whole heap as the ledger: makes every rule that writes through a ledger a rule over any heap -/
def noObjs (h : Heap) : Heap := { h with objs := #[] }
def ledger (h : Heap) (L d : Addr) : List (Addr × Obj) := (List.range h.objs.size).filterMap fun a => if a = L ∨ a = d then none else (h.get? a).map fun o => (a, o)
end
end Att

namespace L2
open PySem PySem.Spec PyProof.Rows

theorem vals_ints : ∀ {vs : List Value} {ns : List Int}, IntsAre vs ns → Vals (ns.map V.int) vs
  | _, _, .nil => .nil
  | _, _, .cons n t h => .cons ⟨t, rfl⟩ (vals_ints h)

/-- nothing is tracked but the script, known to the object (or it is an object of the module) -/
def Only (H : Hp) : Prop := ∀ b, H b = none ∨ ∃ o xs, H b = some (.frz o (.lst xs))

/-- THE HEAD: the law's promise, at the heap behind the top. F, the promise of the law's def, may use that base is part of the heap (so K.In base, base.Ns mainGlobals mg stand in Mod) -/
theorem law_call {P : Program} {w : World} {K : PySem.W.Frag} {mg mb : Str → Option Value} {CX : CXT} {k : Nat} {fa a : Addr} {fd : FuncData} {x : Str} {sp : Sp} {s₁ : Shared} {vs : List Value} {ns : List Int}
    (KX : K.In s₁.heap) (hns : s₁.heap.Ns mainGlobals mg) (hb : s₁.heap.Ns builtinsNs mb) (hbb : ∀ x : Str, x ≠ "__name__" → mb x = bootBuiltins x) (hlim : s₁.heap.NoLimit) (hbm : ∃ bm ob, mg "__builtins__" = some (.ref bm) ∧ bm ≠ builtinsNs ∧ s₁.heap.get? bm = some ob ∧ ob.cls = .type "module" ∧ ob.dict = some builtinsNs ∧ ob.data = .plain) (hg : s₁.gens = #[])
    (ha : s₁.heap.get? a = some { cls := .type "list", data := .seq vs.toArray }) (hi : IntsAre vs ns) (hl : ns.length ≤ sizeLine) (hr : Room k callerA)
    (F : ∀ base : Heap, K.In base → base.Ns mainGlobals mg → FnOk P w K mg base CX k fa fd [x] sp) (hbind : ∀ (s : Shared) (u : Value), BindsTo s fd ⟨[u], []⟩ [(x, u)])
    (hsp : ∀ H : Hp, Only H → SqL K H a (ns.map V.int) → sp [.ref a] H (fun v _ => v = .bl true) fun _ _ _ => False)
    (hCX : ∀ H e s', CX [] H s₁ (fun _ _ _ => False) e s' → False) :
    codeAny (model P w) callerA (.call (.ref fa) ⟨[.ref a], []⟩) (fun r s' => r = .ok (.ret (.bool true)) ∧ OldK s₁.heap s'.heap ∧ s'.os = s₁.os ∧ AllBare s'.gens) s₁ := by
  have rv := vals_ints hi
  have lenV := hi.length
  -- from an abstract heap in which nothing but the script may be tracked
  have core : ∀ H : Hp, Only H → SqL K H a (ns.map V.int) → HOk P w H s₁.heap → (∀ b, H b ≠ none → b = a) → (H a ≠ none → K.lookup a = none) →
      codeAny (model P w) callerA (.call (.ref fa) ⟨[.ref a], []⟩) (fun r s' => r = .ok (.ret (.bool true)) ∧ OldK s₁.heap s'.heap ∧ s'.os = s₁.os ∧ AllBare s'.gens) s₁ := by
    intro H hO hS hok hA hK
    have base_of : ∀ {b : Addr} {o : Obj}, s₁.heap.get? b = some o → H b = none → (hidT s₁.heap H).get? b = some o := fun e n => hidT_get e n
    have noA : ∀ {b : Addr} {o : Obj} {es : Array DictEntry} {ep : Nat}, s₁.heap.get? b = some o → o.data = .dict es ep → H b = none := fun {b o es ep} e d => by
      cases q : H b with
      | none => rfl
      | some u =>
        have e' : b = a := hA b (by rw [q]; simp)
        subst e'
        rw [ha] at e; cases e
        have d' : Data.seq vs.toArray _ = Data.dict es ep := d
        cases d'
    have nsK : ∀ {b : Addr} {m : Str → Option Value}, s₁.heap.Ns b m → (hidT s₁.heap H).Ns b m := fun {b m} ⟨o, es, ep, e, d, r⟩ => ⟨o, es, ep, base_of e (noA e d), d, r⟩
    have hKb : K.In (hidT s₁.heap H) := fun b o e => base_of (KX b o e) (by
      cases q : H b with
      | none => rfl
      | some u =>
        have e' : b = a := hA b (by rw [q]; simp)
        subst e'
        rw [hK (by rw [q]; simp)] at e; cases e)
    have hM : Mod K mg (hidT s₁.heap H) := ⟨hKb, nsK hns, ⟨mb, nsK hb, hbb⟩, let ⟨mc, h1, h2⟩ := hlim; ⟨mc, nsK h1, h2⟩, let ⟨bm, ob, b1, b2, b3, b4, b5⟩ := hbm; ⟨bm, ob, b1, b2, base_of b3 (by
      cases q : H bm with
      | none => rfl
      | some u =>
        have e' : bm = a := hA bm (by rw [q]; simp)
        rw [e', ha] at b3; cases b3; exact absurd b4 (by show Value.type "list" ≠ .type "module"; decide +kernel)), b4, b5⟩⟩
    have e0 : Env0 P w K mg (hidT s₁.heap H) callerA [] s₁ H := ⟨rfl, hM, fun b o e => of_hidT e, Nat.le_of_eq (hidT_size _ _), trivial, fun b hb => absurd (show b ∈ ([] : List Addr) from hb) (by simp), hok, .of_eq hg⟩
    refine codeAny_mono ((F _ hKb (nsK hns)).run callerA [] s₁ H ⟨[.ref a], []⟩ [.ref a] [.ref a] _ _ hr e0 (hbind s₁ (.ref a)) (.cons rfl .nil) (hsp H hO hS)) fun r s' h => ?_
    cases r with
    | error e => exact (hCX H e s' h).elim
    | ok fl =>
      cases fl with
      | next => exact False.elim h
      | brk => exact False.elim h
      | cont => exact False.elim h
      | ret u =>
        obtain ⟨v, H', os, bare, un, hok', r', q⟩ := h
        have q' : v = .bl true := q
        subst q'
        obtain rfl : u = Value.bool true := r'
        refine ⟨rfl, OldK.of_keep fun b o e => ?_, os, bare⟩
        cases q : H b with
        | none => exact un.keep b o e q (by intro z; exact absurd (show b ∈ ([] : List Addr) from z) (by simp)) (by simp)
        | some u =>
          rcases hO b with z | ⟨ob, xs, z⟩
          · rw [q] at z; cases z
          · have z2 := un.frzs b ob _ z
            obtain ⟨e1, _⟩ := hok b _ z
            obtain ⟨e2, _⟩ := hok' b _ z2
            rw [e] at e1; cases e1
            exact e2
  cases hk : K.lookup a with
  | some o =>
    -- the script is one of the module's own objects
    have e := KX a o hk
    rw [ha] at e
    cases e
    refine core (fun _ => none) (fun _ => .inl rfl) (.inr ⟨_, vs.toArray, _, hk, rfl, rfl, rfl, by rw [List.size_toArray, lenV]; exact hl, by simpa using rv⟩) (fun b u z => by have z' : (none : Option HO) = some u := z; cases z') (fun b z => absurd rfl z) fun z => absurd rfl z
  | none =>
    refine core (fun b => if b = a then some (.frz { cls := .type "list", data := .seq vs.toArray } (.lst (ns.map V.int))) else none) (fun b => ?_) (.inl (.inr ⟨{ cls := .type "list", data := .seq vs.toArray }, if_pos rfl⟩)) (fun b u z => ?_) (fun b z => ?_) fun _ => hk
    · by_cases hb : b = a
      · exact .inr ⟨_, _, if_pos hb⟩
      · exact .inl (if_neg hb)
    · by_cases hb : b = a
      · have z' := (if_pos hb).symm.trans z
        cases z'
        subst hb
        exact ⟨ha, by rw [List.length_map]; exact hl, vs, _, rv, ha⟩
      · have z' := (if_neg hb).symm.trans z
        cases z'
    · by_cases hb : b = a
      · exact hb
      · exact absurd (if_neg hb) z
end L2

namespace L2
open PySem PySem.Spec PyProof.Rows

abbrev KOf {K : PySem.W.Frag} {h : Heap} (_ : K.In h) : PySem.W.Frag := K

/-- the goal that k_head leaves (case hc), from the law's promise. F gives the function object fd (K's own) once, then the promise over every base -/
theorem walk_of {l : PySem.W.OpenLaw} {n k : Nat} {q : Program} {loose : List Str} {XP : (Str → Option Value) → Heap → Prop} {YP : World → Heap → Prop} {d : DefRec} {K : Params → PySem.W.Frag} {CX : World → CXT} {sp : World → Sp} {x : Str}
    (hn : l.most = some n) (hn2 : n ≤ sizeLine) (hdf : d.params.defaults = []) (hr : Room k callerA)
    (hY : ∀ (w : World) (h : Heap), YP w h → (K w.params).In h)
    (F : ∀ (w : World) (mg : Str → Option Value) (fa : Addr) (h : Heap), (K w.params).In h → h.Ns mainGlobals mg → mg d.name = some (.ref fa) →
      ∃ fd : FuncData, (∀ (s : Shared) (u : Value), BindsTo s fd ⟨[u], []⟩ [(x, u)]) ∧
        ∀ base : Heap, (K w.params).In base → base.Ns mainGlobals mg → FnOk l.prog w (K w.params) mg base (CX w) k fa fd [x] (sp w))
    (hsp : ∀ (w : World) (H : Hp) (a : Addr) (ns : List Int), ns.length ≤ n → Only H → SqL (K w.params) H a (ns.map V.int) → sp w [.ref a] H (fun v _ => v = .bl true) fun _ _ _ => False)
    (hCX : ∀ (w : World) (H : Hp) (s : Shared) (e : Value) (s' : Shared), CX w [] H s (fun _ _ _ => False) e s' → False) :
    PySem.W.WalkO q loose XP YP l.row.toRowW d [] (fun f vs => PySem.call f vs) := by
  refine Att.attach_call hn hdf fun w s₀ s₁ mg mb fa o pm cd doc a vs ns G Y ho hd hcd hmg hobj hints hlen hg => ?_
  have KX := hY w _ Y
  obtain ⟨fd, hb, hF⟩ := F w mg fa _ KX G.T.g hmg
  exact law_call KX G.T.g G.T.b G.T.builtins G.T.nolimit G.T.bmain hg hobj hints (Nat.le_trans hlen hn2) hr hF hb (fun H hO hS => hsp w H a ns hlen hO hS) fun H e s' => hCX w H s₁ e s'
end L2

/- THE LAST THEOREM (shape; LID, My.* are yours):
   My.Adr: a structure of the addresses that your layer names (classes, functions); My.Txt K t: a structure (Prop) of the equations over K;
   My.txt_mk : {K} {implicit addresses ..} (e1 : nsIn K mainGlobals "law" = some (some (.ref f))) (e2 : K.lookup f = some ⟨oc, od, .func (fnOf "law" "law" params body scope dV kV doc pm an cdv ct), sl⟩) (e3 : codeIn K cdv "law" = true) .. : ∃ t, My.Txt K t

set_option maxRecDepth 100000 in
set_option maxHeartbeats 0 in
theorem PySem.Challenge.cw_LID_holds : PySem.Challenge.rw_LID.Holds := by
  w_on; o_law; k_head; (case hw => w_witness2)
  k_fill
  refine L2.walk_of (l := PySem.Challenge.rw_LID) (n := 63) (k := 40) (x := "script") (CX := fun w => ..) (sp := fun _ => My.sp_law) rfl (by decide) rfl ⟨rfl, by decide, by decide⟩ (fun w h Y => PySem.W.kIn_of Y) ?F ?S ?C
  case F =>
    intro w mg fa h KX G hmg
    have T : ∃ t, My.Txt (L2.KOf KX) t := by
      dsimp only [L2.KOf]                          -- K must stand as «<heap const> w.params» for k_is
      refine' My.txt_mk ?e1 ?e2 ?e3 ..
      (case e1 => PySem.W.k_is)                    -- in the order: a name -> its address -> its object -> its parts
      (case e2 => PySem.W.k_is)
      ..
    obtain ⟨t, T⟩ := T
    have e0 := hmg.symm.trans (PySem.W.mg_of KX G T.law)
    cases e0                                       -- fa is the law's own address
    exact ⟨_, fun s u => .of_eq rfl, fun base kb nb => My.law_fn T kb nb⟩     -- if «.of_eq rfl» comes too early: refine' ⟨_, ?b, fun base kb nb => My.law_fn T kb nb⟩; exact fun s u => .of_eq rfl
  case S => exact fun w H a ns hl hO hS => ..
  case C => exact ..
(the tactic k_is has no namespace: write k_is) -/

/-! SHORT WORDS over the layer: a def of the text, its body, what a loop and a test want. -/
namespace L2
open PySem PySem.Spec PyProof.Rows

/-! ### the text by places -/
/-- the j-th statement of a class's body -/
def inClass (s : Stmt) (j : Nat) : Stmt := match s with
  | .ClassDef _ _ _ body _ _ _ _ _ _ _ => body.getD j (.Pass ⟨0, 0, 0, 0⟩)
  | _ => .Pass ⟨0, 0, 0, 0⟩
def defArgs (s : Stmt) : Arguments := match s with
  | .FunctionDef _ a _ _ _ _ _ _ _ _ => a
  | _ => { posonlyargs := [], args := [], vararg := none, kwonlyargs := [], kw_defaults := [], kwarg := none, defaults := [] }
def defBody (s : Stmt) : List Stmt := match s with
  | .FunctionDef _ _ b _ _ _ _ _ _ _ => b
  | _ => []
def defScope (s : Stmt) : Scope := match s with
  | .FunctionDef _ _ _ _ _ _ sc _ _ _ => sc
  | _ => { kind := .function, names := [], isGenerator := false, isCoroutine := false }

/-! ### no exception leaves a def -/
abbrev CX0 : CXT := fun _ _ _ _ _ _ => False
abbrev E0 : XK := fun _ _ _ => False
theorem pass0 {X : Cx} : Passes CX0 X E0 := fun _ _ _ _ _ _ _ h => h.elim

/-! ### a def (or method) of the text as it stands behind the top -/
structure Fun (K : PySem.W.Frag) (x qual : Str) (st : Stmt) (f : Addr) (fd : FuncData) : Prop where
  ex : ∃ (oc : Value) (od : Option Addr) (kV doc pm : Value) (an : Option Addr) (cdv ct : Value) (osl : Array (Option Value)),
    fd = PySem.W.fnOf x qual (defArgs st) (defBody st) (defScope st) .none kV doc pm an cdv ct ∧ K.lookup f = some ⟨oc, od, .func fd, osl⟩ ∧ PySem.W.codeIn K cdv qual = true
  kp : PySem.W.keepIn K (.ref f) = true
section
variable {P : Program} {w : World} {K : PySem.W.Frag} {mg : Str → Option Value} {base : Heap}
/-- THE RULE for a def: its body as a term of rules, and the reading of that term -/
theorem Fun.ok {x qual : Str} {st : Stmt} {f : Addr} {fd : FuncData} {N ps : List Str} {k : Nat} {sp : Sp} (F : Fun K x qual st f fd) (S : FnScope N ps (defScope st)) (len : ∀ vs H Q E, sp vs H Q E → vs.length = ps.length)
    (hbody : ∀ (cdv : Value) (A : Around) (outer : List Env) (s : Shared) (H : Hp) (vs : List V) (Q : VK) (E : XK), Room k (A.deeper (envOfC qual (defScope st) s.heap.objs.size f cdv)) → sp vs H Q E →
      ∃ t, PSs (cxOf CX0 P w K mg base N qual (defScope st) f cdv A outer s H E).nox (defBody st) t ∧ t { nx := fun _ H' => Q .non H', rt := Q } (start N vs) H) : FnOk P w K mg base CX0 (k + 1) f fd ps sp := by
  obtain ⟨oc, od, kV, doc, pm, an, cdv, ct, osl, rfl, lk, hcd⟩ := F.ex
  refine fn_of lk hcd S len fun A outer s H vs Q E hr hsp => ?_
  obtain ⟨t, h, q⟩ := hbody cdv A outer s H vs Q E hr hsp
  exact ⟨t, h.nox, q⟩
/-- how its arguments bind (no defaults): h is «fun _ _ _ _ _ _ us hl => match us, hl with | [_, _], _ => rfl», one _ a parameter -/
theorem Fun.binds {x qual : Str} {st : Stmt} {f : Addr} {fd : FuncData} {ps : List Str} (F : Fun K x qual st f fd)
    (h : ∀ (kV doc pm : Value) (an : Option Addr) (cdv ct : Value) (us : List Value), us.length = ps.length → bindArgs (PySem.W.fnOf x qual (defArgs st) (defBody st) (defScope st) .none kV doc pm an cdv ct) ⟨us, []⟩ = pure (ps.zip us)) : Binds K fd ps [] := by
  obtain ⟨oc, od, kV, doc, pm, an, cdv, ct, osl, rfl, lk, hcd⟩ := F.ex
  exact .all (h kV doc pm an cdv ct)
theorem fun_mk {x qual : Str} {st : Stmt} {f : Addr} {oc : Value} {od an : Option Addr} {osl : Array (Option Value)} {kV doc pm cdv ct : Value} (l : K.lookup f = some ⟨oc, od, .func (PySem.W.fnOf x qual (defArgs st) (defBody st) (defScope st) .none kV doc pm an cdv ct), osl⟩)
    (c : PySem.W.codeIn K cdv qual = true) (k : PySem.W.keepIn K (.ref f) = true) : Fun K x qual st f (PySem.W.fnOf x qual (defArgs st) (defBody st) (defScope st) .none kV doc pm an cdv ct) := ⟨⟨oc, od, kV, doc, pm, an, cdv, ct, osl, rfl, l, c⟩, k⟩
end
theorem small1000 {n : Nat} (h : n ≤ 1000) : n < sizeLine := Nat.lt_of_le_of_lt h (by decide)

/-! ### expressions in short: the name that stands in the i-th slot -/
section
variable {X : Cx}
theorem pv (i : Nat) {x : Str} {pos : Pos} (hN : X.N[i]? = some x := by rfl) (hv : Vis X.env.scope x := by first | exact Or.inl rfl | exact Or.inr (Or.inl rfl) | exact Or.inr (Or.inr rfl)) (hd : (x == ("__debug__" : Str)) = false := by decide)
    (hcd : (x == ("__classdict__" : Str)) = false := by decide) : PE X (.Name x pos) (tVar i) := pe_var hN hv hd hcd
end

/-! ### tests -/
theorem iteF {A B : Prop} (h : B) : if false = true then A else B := by
  rw [if_neg Bool.false_ne_true]
  exact h
theorem iteT {A B : Prop} (h : A) : if true = true then A else B := by
  rw [if_pos rfl]
  exact h
theorem ite2 {c A B : Prop} [Decidable c] (h1 : c → A) (h2 : ¬ c → B) : if c then A else B := by
  by_cases h : c
  · rw [if_pos h]
    exact h1 h
  · rw [if_neg h]
    exact h2 h
/-! ### heaps -/
/-- all that was tracked is as it was -/
def Same (H H' : Hp) : Prop := ∀ b o, H b = some o → H' b = some o
theorem Same.refl (H : Hp) : Same H H := fun _ _ h => h
theorem Same.trans {H H1 H2 : Hp} (a : Same H H1) (b : Same H1 H2) : Same H H2 := fun c o h => b c o (a c o h)
/-! ### a dict's pairs: keys that differ -/
section
variable {κ : Type} [DecidableEq κ]
end
/-! ### lists -/
theorem at_of {xs : List V} {z : Int} {j : Nat} {v : V} (e : z = (j : Int)) (h : xs[j]? = some v) : atI xs z = some v := by
  rw [e]
  exact atI_nat h
end L2

set_option Elab.async false
set_option linter.all false
set_option maxRecDepth 100000
/-! More rules over the hand layer, for the laws of failslack. -/
namespace L2
open PySem PySem.Spec PyProof.Rows
section
variable {X : Cx}
/-- isinstance(x, T), T a built-in type by its name -/
theorem call_isinst : CallR X (.builtin "isinstance") (fun xs H Q => ∃ x T t b, xs = [x, .ty T] ∧ TyOf X.K H x t ∧ PySem.W.kitOne X.K t (.type T) = some b ∧ Q (.bl b) H) := by
  intro pins s σ H xs us Q I r h
  obtain ⟨x, T, t, b, rfl, ty, e, q⟩ := h
  obtain ⟨u, v, rfl, ru, rv⟩ := vals2 r
  cases rv
  exact isinst_ok I ru ty e fun tk => ⟨.bl b, H, I.tok tk, rfl, q⟩
/-- a built-in type's name as a value -/
theorem pe_type {x : Str} {n : String} {pos : Pos} (hg : Gl X x) (hm : X.mg x = none) (hv : bootBuiltins x = some (.type n)) (hn : x ≠ "__name__" := by decide) (hd : (x == ("__debug__" : Str)) = false := by decide) : PE X (.Name x pos) (tC (.ty n)) :=
  pe_bltn hg hm hv rfl hn hd
end
/-- a module's constant -/
def GC (mg : Str → Option Value) (x : Str) (v : V) : Prop := ∃ u, mg x = some u ∧ RelV v u
theorem pe_gc {X : Cx} {x : Str} {v : V} {pos : Pos} (h : GC X.mg x v) (hg : Gl X x := by rfl) (hd : (x == ("__debug__" : Str)) = false := by decide) : PE X (.Name x pos) (tC v) :=
  let ⟨_, h1, h2⟩ := h
  pe_glob hg h1 h2 hd
/-- a def of the text that is called by its name and raises nothing -/
structure CalF (P : Program) (w : World) (K : PySem.W.Frag) (mg : Str → Option Value) (base : Heap) (k : Nat) (x : Str) (ps : List Str) (sp : Sp) : Prop where
  ex : ∃ f fd, FnOk P w K mg base CX0 k f fd ps sp ∧ mg x = some (.ref f) ∧ PySem.W.keepIn K (.ref f) = true ∧ Binds K fd ps []
theorem pe_fun {X : Cx} {k j : Nat} {x : Str} {ps : List Str} {sp : Sp} {p pos : Pos} {e : Expr} {es : List Expr} {t : TA} (F : CalF X.prog X.w X.K X.mg X.base k x ps sp) (hr : Room j X.A) (ha : PA X (e :: es) t) (hg : Gl X x := by rfl) (hjk : k ≤ j := by decide)
    (hdb : (x == ("__debug__" : Str)) = false := by decide) (he : starEach (e :: es) X.env = (false, eval e X.env) :: starEach es X.env := by rfl) (hpl : (backTo pos (starEach es X.env)).any (·.1) = false := by rfl) :
    PE X (.Call (.Name x p) (e :: es) [] pos) (tCall sp [] E0 t) := by
  obtain ⟨f, fd, F, hm, hk, hb⟩ := F.ex
  exact pe_call F (hr.mono hjk) hg hm hk hb .nil pass0 ha hdb he hpl
/-! ### arguments without a star -/
def isStar : Expr → Bool
  | .Starred _ _ => true
  | _ => false
theorem pa_c {X : Cx} {e : Expr} {es : List Expr} {te : TE} {t : TA} (ha : PE X e te) (hr : PA X es t) (hn : isStar e = false := by rfl) : PA X (e :: es) (tCons te t) :=
  pa_cons ha hr (by cases e <;> first | rfl | cases hn)
/-! ### loops over a text -/
theorem lc_str {x : Str} {g : TG} {tt : TT} {te : TE} {vs : List Nat} {σ : St} {H1 : Hp} {D : Addr} {Qd : Hp → Prop} (Pv : Nat → Hp → Prop) (h0 : Pv 0 (upd H1 D (.lst [])))
    (hs : ∀ i c H, x.cps.toList[i]? = some c → Pv i H → g (.str ⟨#[c]⟩) (wipe σ vs) H fun σ2 H2 => wipe σ2 vs = wipe σ vs ∧ tt σ2 H2 fun b H3 =>
      if b = true then te σ2 H3 fun y H4 => ∃ acc, H4 D = some (.lst acc) ∧ acc.length < sizeLine ∧ Pv (i + 1) (upd H4 D (.lst (acc ++ [y]))) else Pv (i + 1) H3) (hd : ∀ H, Pv x.cps.size H → Qd H) :
    ∃ W : Nat → Nat → Hp → Prop, (∃ m, W 0 m (upd H1 D (.lst []))) ∧ ∀ i m H, W i m H →
      ((Its x).stop i H ∧ Qd H) ∨ ((Its x).go i H ∧ ∃ Nx : Hp → Prop, (∀ H', Nx H' → ∃ m', m' < m ∧ W (i + 1) m' H') ∧ ∀ v H', (Its x).yld i H v H' → g v (wipe σ vs) H' fun σ2 H2 => wipe σ2 vs = wipe σ vs ∧ tt σ2 H2 fun b H3 =>
        if b = true then te σ2 H3 fun y H4 => ∃ acc, H4 D = some (.lst acc) ∧ acc.length < sizeLine ∧ Nx (upd H4 D (.lst (acc ++ [y]))) else Nx H3) := by
  refine ⟨fun i m H => m = x.cps.size - i ∧ i ≤ x.cps.size ∧ Pv i H, ⟨x.cps.size, by simp, Nat.zero_le _, h0⟩, ?_⟩
  rintro i m H ⟨rfl, hi, p⟩
  by_cases hlt : i < x.cps.size
  · refine .inr ⟨hlt, Pv (i + 1), fun H' p' => ⟨x.cps.size - (i + 1), by omega, rfl, hlt, p'⟩, fun v H' y => ?_⟩
    obtain ⟨e, c, hc, y⟩ := y
    subst e y
    exact hs i c _ (by simpa using hc) p
  · have e : i = x.cps.size := by omega
    subst e
    exact .inl ⟨Nat.le_refl _, hd H p⟩
/-- a comprehension without an if -/
theorem yesI {σ : St} {H : Hp} {A B : Hp → Prop} (h : A H) : tYes σ H (fun b H3 => if b = true then A H3 else B H3) := by
  show if true = true then A H else B H
  rw [if_pos rfl]
  exact h
/-! ### heaps: all but some places stay -/
theorem same_new {H : Hp} {p : Addr} {o : HO} (hp : H p = none) : Same H (upd H p o) := fun b u e => by
  rw [upd_ne (ne_of_none e hp)]
  exact e
/-- what stands elsewhere than at p stays -/
def SameB (p : Addr) (H H' : Hp) : Prop := ∀ b o, H b = some o → b ≠ p → H' b = some o
theorem Same.b {p : Addr} {H H' : Hp} (h : Same H H') : SameB p H H' := fun b o e _ => h b o e
theorem SameB.trans {p : Addr} {H H1 H2 : Hp} (a : SameB p H H1) (b : SameB p H1 H2) : SameB p H H2 := fun c o h n => b c o (a c o h n) n
theorem sameB_upd {p : Addr} {H : Hp} {o : HO} : SameB p H (upd H p o) := fun b u e n => by
  rw [upd_ne n]
  exact e
theorem SameB.free {p : Addr} {H H' : Hp} (e : SameB p H H') {l : Addr} (h : H' l = none) (n : l ≠ p) : H l = none := by
  cases q : H l with
  | none => rfl
  | some o => rw [e l o q n] at h; cases h
theorem upd_at {H H1 : Hp} {p : Addr} {o : HO} (e : upd H p o = H1) : H1 p = some o := by
  rw [← e]
  exact upd_same
theorem upd_sm {H H1 : Hp} {p : Addr} {o : HO} (e : upd H p o = H1) (n : H p = none) : Same H H1 := by
  rw [← e]
  exact same_new n
theorem upd_sm2 {H H1 : Hp} {p : Addr} {o u : HO} (e : upd (upd H p u) p o = H1) (n : H p = none) : Same H H1 := by
  rw [← e, upd_upd]
  exact same_new n
theorem all_nil {α : Type} {P : α → Prop} : ∀ v ∈ ([] : List α), P v := fun v h => by cases h
theorem all_cons {α : Type} {P : α → Prop} {x : α} {l : List α} (h : P x) (t : ∀ v ∈ l, P v) : ∀ v ∈ x :: l, P v := fun v hv => by
  rcases List.mem_cons.mp hv with rfl | q
  · exact h
  · exact t v q
theorem all_app {α : Type} {P : α → Prop} {a b : List α} (h : ∀ v ∈ a, P v) (t : ∀ v ∈ b, P v) : ∀ v ∈ a ++ b, P v := fun v hv => by
  rcases List.mem_append.mp hv with q | q
  · exact h v q
  · exact t v q
/-! ### rules by a named K (for a comprehension's block) -/
section
variable {X : Cx} {K : PySem.W.Frag}
theorem call_lenK (hK : X.K = K) : CallR X (.builtin "len") (fun xs H Q => ∃ x n, xs = [x] ∧ LenV K x H n ∧ Q (.int n) H) := by
  subst hK
  exact call_len
theorem call_isinstK (hK : X.K = K) : CallR X (.builtin "isinstance") (fun xs H Q => ∃ x T t b, xs = [x, .ty T] ∧ TyOf K H x t ∧ PySem.W.kitOne K t (.type T) = some b ∧ Q (.bl b) H) := by
  subst hK
  exact call_isinst
theorem ix_listK (hK : X.K = K) : IxR X (rIxL K) := by
  subst hK
  exact ix_list
theorem ix_tupK (hK : X.K = K) : IxR X (rIxT K) := by
  subst hK
  exact ix_tup
theorem op_notIn_seqK (hK : X.K = K) : OpR X (compareOp .NotIn) (rIn K true) := by
  subst hK
  exact op_notIn_seq
end
end L2

set_option Elab.async false
set_option linter.all false
set_option maxRecDepth 100000
/-! == and != of values that are flat, the same object, or lists and tuples of such. -/
namespace L2
open PySem PySem.Spec PyProof.Rows
/-- two lists, or two tuples, whose items meet as E tells -/
def SeqEq (K : PySem.W.Frag) (H : Hp) (E : V → V → Bool → Prop) (p q : Addr) (b : Bool) : Prop := ∃ xs ys : List V,
  (xs.length = ys.length ∧ ((SqL K H p xs ∧ SqL K H q ys) ∨ (SqT K H p xs ∧ SqT K H q ys)) ∧ ∃ bs : List Bool, bs.length = xs.length ∧ (∀ j x y, xs[j]? = some x → ys[j]? = some y → E x y (bs.getD j true)) ∧ b = bs.all id) ∨
  (xs.length ≠ ys.length ∧ SqL K H p xs ∧ SqL K H q ys ∧ b = false) ∨
  (xs.length ≠ ys.length ∧ SqT K H p xs ∧ SqT K H q ys ∧ b = false ∧ ∃ bs : List Bool, ∀ j x y, xs[j]? = some x → ys[j]? = some y → E x y (bs.getD j true))
/-- x == y gives b, looked at n deep -/
def Eqq (K : PySem.W.Frag) (H : Hp) : Nat → V → V → Bool → Prop
  | 0, x, y, b => (flatV x = true ∧ flatV y = true ∧ b = eqV x y) ∨ (∃ a, x = .ref a ∧ y = .ref a ∧ b = true)
  | n + 1, x, y, b => (flatV x = true ∧ flatV y = true ∧ b = eqV x y) ∨ (∃ a, x = .ref a ∧ y = .ref a ∧ b = true) ∨ ∃ p q, x = .ref p ∧ y = .ref q ∧ p ≠ q ∧ SeqEq K H (Eqq K H n) p q b
/-- item by item -/
inductive EqAll (E : V → V → Bool → Prop) : List V → List V → Bool → Prop
  | nil : EqAll E [] [] true
  | cons {x y : V} {xs ys : List V} {b c : Bool} : E x y b → EqAll E xs ys c → EqAll E (x :: xs) (y :: ys) (b && c)
section
variable {K : PySem.W.Frag} {H : Hp} {n : Nat} {E : V → V → Bool → Prop}
theorem EqAll.list : ∀ {xs ys : List V} {b : Bool}, EqAll E xs ys b → xs.length = ys.length ∧ ∃ bs : List Bool, bs.length = xs.length ∧ (∀ j x y, xs[j]? = some x → ys[j]? = some y → E x y (bs.getD j true)) ∧ b = bs.all id
  | _, _, _, .nil => ⟨rfl, [], rfl, fun j x y h => by simp at h, rfl⟩
  | _, _, _, .cons (b := b) h t => by
    obtain ⟨e, bs, hl, ha, hb⟩ := EqAll.list t
    refine ⟨by simp [e], b :: bs, by simp [hl], fun j x y h1 h2 => ?_, by simp [hb]⟩
    cases j with
    | zero =>
      simp at h1 h2
      subst h1 h2
      exact h
    | succ j => simpa using ha j x y (by simpa using h1) (by simpa using h2)
/-- the same items -/
theorem EqAll.refl (hE : ∀ x ∈ xs, E x x true) : EqAll E xs xs true := by
  induction xs with
  | nil => exact .nil
  | cons x r ih => exact .cons (b := true) (c := true) (hE x List.mem_cons_self) (ih fun y hy => hE y (List.mem_cons_of_mem _ hy))
theorem SeqEq.lst {p q : Addr} {xs ys : List V} {b : Bool} (hp : SqL K H p xs) (hq : SqL K H q ys) (h : EqAll E xs ys b) : SeqEq K H E p q b := ⟨xs, ys, .inl ⟨h.list.1, .inl ⟨hp, hq⟩, h.list.2⟩⟩
theorem SeqEq.tup {p q : Addr} {xs ys : List V} {b : Bool} (hp : SqT K H p xs) (hq : SqT K H q ys) (h : EqAll E xs ys b) : SeqEq K H E p q b := ⟨xs, ys, .inl ⟨h.list.1, .inr ⟨hp, hq⟩, h.list.2⟩⟩
theorem SeqEq.lstN {p q : Addr} {xs ys : List V} (hp : SqL K H p xs) (hq : SqL K H q ys) (h : xs.length ≠ ys.length) : SeqEq K H E p q false := ⟨xs, ys, .inr (.inl ⟨h, hp, hq, rfl⟩)⟩
theorem Eqq.flat {x y : V} (hx : flatV x = true) (hy : flatV y = true) : Eqq K H n x y (eqV x y) := by
  cases n <;> exact .inl ⟨hx, hy, rfl⟩
end
theorem range_getD (bs : List Bool) : (List.range bs.length).all (fun j => bs.getD j true) = bs.all id := by
  induction bs with
  | nil => rfl
  | cons b bs ih =>
    rw [List.length_cons, List.range_succ_eq_map, List.all_cons, List.all_map, List.all_cons]
    congr 1
section
variable {X : Cx} {pins : List (Addr × Obj)} {σ : St} {H : Hp} {s : Shared} {E : V → V → Bool → Prop}
theorem eq_items {A : Around} (ih : ∀ {x y : V} {b : Bool} {u v : Value}, E x y b → RelV x u → RelV y v → SeqAt.EqAt A s u v b) {xs ys : List V} {us vs : List Value} {bs : List Bool} (r1 : Vals xs us) (r2 : Vals ys vs)
    (ha : ∀ j x y, xs[j]? = some x → ys[j]? = some y → E x y (bs.getD j true)) : ∀ j (h1 : j < us.toArray.size) (h2 : j < vs.toArray.size), SeqAt.EqAt A s us.toArray[j] vs.toArray[j] (bs.getD j true) := fun j h1 h2 => by
  have l1 := r1.length
  have l2 := r2.length
  simp only [List.size_toArray] at h1 h2
  have e1 : xs[j]? = some xs[j] := by simp
  have e2 : ys[j]? = some ys[j] := by simp
  obtain ⟨u, hu, ru⟩ := r1.get e1
  obtain ⟨v, hv, rv⟩ := r2.get e2
  have q := ih (ha j _ _ e1 e2) ru rv
  have eu : us.toArray[j] = u := by
    rw [List.getElem?_eq_getElem h1] at hu
    simpa using hu
  have ev : vs.toArray[j] = v := by
    rw [List.getElem?_eq_getElem h2] at hv
    simpa using hv
  rw [eu, ev]
  exact q
theorem rc_seq {A : Around} (I : Inv X pins σ H s) (hu : A.units < cLine) (ih : ∀ {x y : V} {b : Bool} {u v : Value}, E x y b → RelV x u → RelV y v → SeqAt.EqAt A.in1 s u v b) {p q : Addr} {b : Bool}
    (h : SeqEq X.K H E p q b) : SeqAt.RcAt A s (.ref p) (.ref q) b ∧ SeqAt.RcNeAt A s (.ref p) (.ref q) (!b) := by
  obtain ⟨xs, ys, ⟨hl, hs, bs, hb, ha, rfl⟩ | ⟨hl, h1, h2, rfl⟩ | ⟨hl, h1, h2, rfl, bs, ha⟩⟩ := h
  · rcases hs with ⟨h1, h2⟩ | ⟨h1, h2⟩
    · obtain ⟨us, r1, p1, _⟩ := I.list h1
      obtain ⟨vs, r2, p2, _⟩ := I.list h2
      have e := SeqAt.RcAt.lists (e := fun j => bs.getD j true) p1.isList p2.isList (by simp [← r1.length, ← r2.length, hl]) hu (eq_items ih r1 r2 ha)
      have e' := SeqAt.RcNeAt.lists (e := fun j => bs.getD j true) p1.isList p2.isList (by simp [← r1.length, ← r2.length, hl]) hu (eq_items ih r1 r2 ha)
      rw [show us.toArray.size = bs.length by simp [← r1.length, hb], range_getD] at e e'
      exact ⟨e, e'⟩
    · obtain ⟨us, r1, p1, _⟩ := I.tuple h1
      obtain ⟨vs, r2, p2, _⟩ := I.tuple h2
      have e := SeqAt.RcAt.tuples (e := fun j => bs.getD j true) p1 p2 hu (eq_items ih r1 r2 ha)
      have e' := SeqAt.RcNeAt.tuples (e := fun j => bs.getD j true) p1 p2 hu (eq_items ih r1 r2 ha)
      rw [show us.toArray.size = bs.length by simp [← r1.length, hb], show vs.toArray.size = bs.length by simp [← r2.length, hb, hl], Nat.min_self, range_getD, beq_self_eq_true, Bool.and_true] at e e'
      exact ⟨e, e'⟩
  · obtain ⟨us, r1, p1, _⟩ := I.list h1
    obtain ⟨vs, r2, p2, _⟩ := I.list h2
    exact ⟨SeqAt.RcAt.lists_lengths p1.isList p2.isList (by simp [← r1.length, ← r2.length]; exact hl) hu, SeqAt.RcNeAt.lists_lengths p1.isList p2.isList (by simp [← r1.length, ← r2.length]; exact hl) hu⟩
  · obtain ⟨us, r1, p1, _⟩ := I.tuple h1
    obtain ⟨vs, r2, p2, _⟩ := I.tuple h2
    have e := SeqAt.RcAt.tuples (e := fun j => bs.getD j true) p1 p2 hu (eq_items ih r1 r2 ha)
    have e' := SeqAt.RcNeAt.tuples (e := fun j => bs.getD j true) p1 p2 hu (eq_items ih r1 r2 ha)
    rw [show (us.toArray.size == vs.toArray.size) = false by simp [← r1.length, ← r2.length]; exact hl, Bool.and_false] at e e'
    exact ⟨e, e'⟩
theorem units_in1 (A : Around) : A.in1.units = A.units + 1 := rfl
theorem eqq_at (I : Inv X pins σ H s) : ∀ (n : Nat) (A : Around), A.units + n < cLine → ∀ {x y : V} {b : Bool} {u v : Value}, Eqq X.K H n x y b → RelV x u → RelV y v → SeqAt.EqAt A s u v b
  | 0, A, hu, x, y, b, u, v, h, rx, ry => by
    rcases h with ⟨hx, hy, rfl⟩ | ⟨a, rfl, rfl, rfl⟩
    · exact eqAt_V rx ry hx hy
    · cases rx
      cases ry
      exact SeqAt.EqAt.same _
  | n + 1, A, hu, x, y, b, u, v, h, rx, ry => by
    rcases h with ⟨hx, hy, rfl⟩ | ⟨a, rfl, rfl, rfl⟩ | ⟨p, q, rfl, rfl, ne, h⟩
    · exact eqAt_V rx ry hx hy
    · cases rx
      cases ry
      exact SeqAt.EqAt.same _
    · cases rx
      cases ry
      exact SeqAt.EqAt.of_refs ne (rc_seq I (by omega) (fun h' r1 r2 => eqq_at I n A.in1 (by rw [units_in1]; omega) h' r1 r2) h).1
end
/-- lists or tuples compared, item by item n deep -/
def rEqS (K : PySem.W.Frag) (n : Nat) : R2 := fun x y H Q => ∃ p q b, x = .ref p ∧ y = .ref q ∧ SeqEq K H (Eqq K H n) p q b ∧ Q (.bl b) H
def rNeS (K : PySem.W.Frag) (n : Nat) : R2 := fun x y H Q => ∃ p q b, x = .ref p ∧ y = .ref q ∧ SeqEq K H (Eqq K H n) p q b ∧ Q (.bl (!b)) H
section
variable {X : Cx} {k n : Nat}
theorem op_eqS (n : Nat) (hr : Room k X.A) (hn : n ≤ 100 := by decide) : OpR X (compareOp .Eq) (rEqS X.K n) := by
  intro pins s σ H x y v u Q I rx ry h
  obtain ⟨p, q, b, rfl, rfl, h, k⟩ := h
  cases rx
  cases ry
  have hu := hr.un
  exact (rc_seq I (by omega) (fun h' r1 r2 => eqq_at I n X.A.in1 (by rw [units_in1]; omega) h' r1 r2) h).1 _ _ _ _ ⟨.bl b, H, I, rfl, k⟩
theorem op_neS (n : Nat) (hr : Room k X.A) (hn : n ≤ 100 := by decide) : OpR X (compareOp .NotEq) (rNeS X.K n) := by
  intro pins s σ H x y v u Q I rx ry h
  obtain ⟨p, q, b, rfl, rfl, h, k⟩ := h
  cases rx
  cases ry
  have hu := hr.un
  exact (rc_seq I (by omega) (fun h' r1 r2 => eqq_at I n X.A.in1 (by rw [units_in1]; omega) h' r1 r2) h).2 _ _ _ _ ⟨.bl (!b), H, I, rfl, k⟩
end
theorem op_eqSK {X : Cx} {K : PySem.W.Frag} {k : Nat} (n : Nat) (hr : Room k X.A) (hK : X.K = K) (hn : n ≤ 100 := by decide) : OpR X (compareOp .Eq) (rEqS K n) := by
  subst hK
  exact op_eqS n hr hn
theorem op_neSK {X : Cx} {K : PySem.W.Frag} {k : Nat} (n : Nat) (hr : Room k X.A) (hK : X.K = K) (hn : n ≤ 100 := by decide) : OpR X (compareOp .NotEq) (rNeS K n) := by
  subst hK
  exact op_neS n hr hn
end L2

set_option Elab.async false
set_option linter.all false
set_option maxRecDepth 100000
/-! Own error classes with an __init__ of their own, under ValueError. -/
namespace L2
open PySem PySem.Spec PySem.Calls PySem.W
/-- an own error class as it stands in a heap -/
structure ExcCls (h : Heap) (C : Addr) (bm : List Value) : Prop where
  obj : ∃ nm q N bs hdct sn sub ab col dd k0 k1 k2 k3 k5, h.get? C = some (excClassObj nm q C N bs bm hdct sn sub ab col dd k0 k1 k2 k3 k5 "ValueError.__new__")
  hasV : bm.contains (.type "ValueError") = true
  noA : bm.contains (.type "AttributeError") = false
  noN : bm.contains (.type "NameError") = false
abbrev excObj (C : Addr) (t : Addr) : Obj := { cls := .ref C, data := .fields #[.ref t, .none, .none, .none, .bool false, .none] }
abbrev tupObj (vs : List Value) : Obj := { cls := .type "tuple", data := .seq vs.toArray }
section
variable {prog : Program} {w : World} {A : Around} {R : Result → Shared → Prop} {h : Heap} {g : Array GenState} {d : Drawn} {t : Nat} {os : OsState} {C : Addr} {bm : List Value}
theorem exc_check_new {M : Model} {E : Value → Shared → Prop} (Y : ExcCls h C bm) {rest : List Value} {Q : Unit → Shared → Prop}
    (hq : Q () ⟨h, g, d, t, os⟩) : wpAny M A (checkBuiltinCall "ValueError.__new__" ⟨.ref C :: rest, []⟩) Q E ⟨h, g, d, t, os⟩ := by
  obtain ⟨⟨nm, q, N, bs, hdct, sn, sub, ab, col, dd, k0, k1, k2, k3, k5, hC⟩, hV, hA, hN⟩ := Y
  have F := PySem.F.excBase_ValueError
  have hcont : (Value.ref C :: bm).contains (.type "ValueError") = true := by rw [List.contains_cons, hV, Bool.or_true]
  have hstar := F.noStar
  simp only [checkBuiltinCall, F.newKind, F.newSplit, F.newRow]
  repeat (first | refine wpAny_loadPart_at hC ?_ | (refine wpAny_isSubtype_exc hC ?_; rw [hcont]) | refine wpAny_staticBase_exc hC ?_ | refine wpAny_madeBy_exc hC ?_ | simp only [bne_self_eq_false, Bool.false_eq_true, if_false] | wp_step)
  exact hq
theorem exc_new (Y : ExcCls h C bm) {rest : List Value}
    (hq : R (.ok (.ret (.ref (h.objs.size + 1)))) ⟨(h.push (tupObj rest)).push (excObj C h.objs.size), g, d, t, os⟩) (hrest : rest.length ≤ sizeLine) :
    codeAny (model prog w) A (.builtin "ValueError.__new__" ⟨.ref C :: rest, []⟩) R ⟨h, g, d, t, os⟩ := by
  obtain ⟨⟨nm, q, N, bs, hdct, sn, sub, ab, col, dd, k0, k1, k2, k3, k5, hC⟩, hV, hA, hN⟩ := Y
  have F := PySem.F.excBase_ValueError
  have hends := F.ends
  have hcB : (Value.ref C :: bm).contains (.type "ValueError") = true := by rw [List.contains_cons, hV, Bool.or_true]
  have hcA : (Value.ref C :: bm).contains (.type "AttributeError") = false := by rw [List.contains_cons, hA]; rfl
  have hcN : (Value.ref C :: bm).contains (.type "NameError") = false := by rw [List.contains_cons, hN]; rfl
  refine codeAny_builtinAt F.entry ?_
  unfold Builtin.«BaseException.__new__»
  refine wpAt_bind ?_
  show wpAt _ _ _ (stack >>= _) _ _ _
  refine wpAt_bind (wpAt_stack fun p below => wpAt_of_wpAny ?_)
  wp_walk
  refine wpAt_of_wpAny ?_
  rw [F.owner]
  repeat (first | with_reducible refine wpAny_madeHere_exc F.canon hC ?_ | with_reducible refine wpAny_loadPart_at hC ?_ | (with_reducible refine wpAny_isSubtype_exc hC ?_; first | rw [hcB] | rw [hcA] | rw [hcN]) | wp_step)
  show R _ _
  rw [Heap.size_push]
  exact hq
/-- C(..) of an own error class: the arguments' tuple, the error, then its own __init__ -/
theorem make_exc {K : Frag} {rest : List Value} {fI : Addr} (X : K.In h) (Y : ExcCls h C bm) (hi : findIn K (.ref C) "__init__" = some (some (.ref fI))) (hf : typeIn K (.ref fI) = some (.type "function")) (hrest : rest.length ≤ sizeLine)
    (hq : codeAny (model prog w) (A.under (.builtin "type.__call__" ⟨.ref C :: rest, []⟩)) (.call (.ref fI) ⟨.ref (h.objs.size + 1) :: rest, []⟩) (InitBack (h.objs.size + 1) R) ⟨(h.push (tupObj rest)).push (excObj C h.objs.size), g, d, t, os⟩) :
    codeAny (model prog w) A (.call (.ref C) ⟨rest, []⟩) R ⟨h, g, d, t, os⟩ := by
  have Y' := Y
  obtain ⟨⟨nm, q, N, bs, hdct, sn, sub, ab, col, dd, k0, k1, k2, k3, k5, hC⟩, hV, hA, hN⟩ := Y
  have F := PySem.F.excBase_ValueError
  have f1 := tc_lookup
  have f2 := tc_bind (.ref C)
  have hT : (⟨h, g, d, t, os⟩ : Shared).TypeIs (.ref C) "type" := ⟨_, hC, rfl⟩
  refine codeAny_of_tree ?_
  show wpAny _ _ (callAny (.ref C) _) _ _ _
  repeat (any_goals (first | assumption | with_reducible refine wpAny_loadPart_at hC ?_ | wp_step))
  refine ⟨rfl, ?_⟩
  refine codeAny_call_builtin_at (Code.quiet_builtin _ (by decide +kernel)) entry_typeCall (wpAny_check_type_call_sub hC ?_)
  repeat (first | with_reducible refine wpAny_loadPart_at hC ?_ | with_reducible refine wpAny_madeBy_exc hC ?_ | wp_step)
  refine codeAny_call_builtin_code (Code.quiet_builtin _ F.quiet) (exc_check_new Y' ?_)
  refine exc_new Y' ?_ hrest
  show wpAny _ _ _ _ _ _
  have k : ∀ b o, h.get? b = some o → ((h.push (tupObj rest)).push (excObj C h.objs.size)).get? b = some o := fun b o e => Heap.get?_push_of_some _ (Heap.get?_push_of_some _ e)
  have hC₁ := k _ _ hC
  have hget : ((h.push (tupObj rest)).push (excObj C h.objs.size)).get? (h.objs.size + 1) = some (excObj C h.objs.size) := by heap_get
  have hcC : (Value.ref C :: bm).contains (.ref C) = true := by simp
  unfold isInstance
  repeat (first | with_reducible refine wpAny_loadPart_at hget ?_ | (with_reducible refine wpAny_isSubtype_exc hC₁ ?_; rw [hcC]) | wp_step)
  show wpAny _ _ (isSubtype (.ref C) (.ref C)) _ _ _
  refine wpAny_isSubtype_exc hC₁ ?_
  rw [hcC]
  unfold callSpecial? specialOf
  repeat (first | with_reducible refine wpAny_loadPart_at hget ?_ | wp_step)
  show wpAny _ _ (typeLookup (.ref C) _) _ _ _
  have i1 := (looks_findIn (M := model prog w) X hi).keeps k
  have b1 := (bind_fn (M := model prog w) X (.ref (h.objs.size + 1)) hf).keeps k
  refine i1.at ?_
  refine wpAny_holding (wpAny_bind (b1.at ?_))
  refine wpAny_bind (wpAny_call ?_)
  refine codeAny_mono hq fun r s' z => ?_
  rcases r with e | (v | _ | _ | _) <;> first | exact z | exact z.elim | skip
  obtain ⟨rfl, z⟩ := z
  wp_walk
  exact z
end
end L2

set_option Elab.async false
set_option linter.all false
set_option maxRecDepth 100000
namespace L2
open PySem PySem.Spec PySem.Calls PySem.W Builtin Builtin.ObjectAttr
/-- own classes, then ValueError's line -/
def onlyExc : List Value → Bool
  | .ref _ :: r => onlyExc r
  | l => l == [.type "ValueError", .type "Exception", .type "BaseException", .type "object"]
theorem refuse_exc (self : Value) : ∀ {l : List Value}, onlyExc l = true → refuseLoop self "__setattr__" l = pure ()
  | .ref c :: r, e => by
    rw [refuseLoop_ref]
    exact refuse_exc self (by unfold onlyExc at e; exact e)
  | [], e => by cases e
  | .type n :: r, e => by
    have q : (Value.type n :: r) = [.type "ValueError", .type "Exception", .type "BaseException", .type "object"] := beq_iff_eq.mp e
    rw [q]
    exact PySem.F.store_ValueError.passes self
  | .none :: r, e => by cases (beq_iff_eq.mp e : _ = _)
  | .bool _ :: r, e => by cases (beq_iff_eq.mp e : _ = _)
  | .int _ _ :: r, e => by cases (beq_iff_eq.mp e : _ = _)
  | .str _ _ :: r, e => by cases (beq_iff_eq.mp e : _ = _)
  | .bytes _ _ :: r, e => by cases (beq_iff_eq.mp e : _ = _)
  | .float _ _ :: r, e => by cases (beq_iff_eq.mp e : _ = _)
  | .builtin _ :: r, e => by cases (beq_iff_eq.mp e : _ = _)
  | .notImplemented :: r, e => by cases (beq_iff_eq.mp e : _ = _)
theorem exc_has {l : List Value} {v : Value} (h : [Value.type "ValueError", .type "Exception", .type "BaseException", .type "object"].contains v = true) : onlyExc l = true → l.contains v = true := by
  induction l with
  | nil => intro e; cases e
  | cons a r ih =>
    intro e
    by_cases q : (a :: r) = [.type "ValueError", .type "Exception", .type "BaseException", .type "object"]
    · rw [q]; exact h
    · cases a with
      | ref c => rw [List.contains_cons, ih (by unfold onlyExc at e; exact e), Bool.or_true]
      | _ => exact absurd (beq_iff_eq.mp e) q
section
variable {prog : Program} {w : World} {A : Around} {E : Value → Shared → Prop} {K : Frag} {C x : Addr} {s : Shared} {R : Result → Shared → Prop} {name : Str} {v : Value}
theorem osaE {ox : Obj} {od : Option Obj} {tk : Tok} (X : K.In s.heap) (I : InstAt s.heap x ox C od) (hp : (clsIn K C).any (fun cd => onlyExc cd.mro) = true) (ht : takerIn K C name = some none)
    (h : ∀ b, wpAny (model prog w) A.in1 (storeInOwnDict (.ref x) (.ref C) (.str name tk) name v b)
      (fun fin s' => match fin with | .done f => R (.ok f) s' | .again c' => c'.quiet = true ∧ codeAny (model prog w) A c' R s') (fun e s' => R (.error e) s') s) :
    codeAny (model prog w) A (.call (.builtin "object.__setattr__") ⟨[.ref x, .str name tk, v], []⟩) R s := by
  have SF := PySem.F.store_object
  obtain ⟨cd, hc, ho⟩ := any_some hp
  have ne : cd.mro.isEmpty = false := by cases q : cd.mro with | nil => rw [q] at ho; cases ho | cons _ _ => rfl
  have sub : Looks (model prog w) s.heap (isInstance (.ref x) (.type "object")) true := I.type.andThen (looks_mroIn X (by unfold mroIn; rw [hc, Option.bind_some, if_neg (by rw [ne]; decide), exc_has (by decide +kernel) ho]))
  refine codeAny_call_builtin SF.slot.plain SF.entry (@check_slot (model prog w) _ _ s "object.__setattr__" "object" "__setattr__" (.ref x) [.str name tk, v] [] _ SF.kind SF.split sub (SF.args (.ref x) (.str name tk) v) ?_)
  obtain ⟨attr, ha, hr⟩ := Option.bind_eq_some_iff.mp ht
  have hm : Looks (model prog w) s.heap (mroOf (.ref C)) cd.mro := (looks_clsIn X hc).andThen .now
  have L3 : Looks (model prog w) s.heap (storeTaker? attr) none := by
    cases attr with
    | none => exact .now
    | some a =>
      obtain ⟨b, hb, hr⟩ := Option.map_eq_some_iff.mp hr
      refine (looks_takesIn X hb).andThen ?_
      cases b
      · exact .now
      · cases hr
  rw [osa_eq, refuse_eq]
  refine wpAny_bind (wpAny_bind (I.type.here (wpAny_bind (hm.here ?_))))
  rw [refuse_exc _ ho]
  refine wpAny_pure (wpAny_bind (I.type.here (wpAny_bind ((looks_findIn X ha).here (wpAny_bind (L3.here ?_))))))
  exact h _
/-- the first attribute of an error: its dict is laid -/
theorem set_exc0 {vs : Array Value} {Q : Unit → Shared → Prop} (X : K.In s.heap) (hx : s.heap.get? x = some { cls := .ref C, dict := none, data := .fields vs })
    (hs : findIn K (.ref C) "__setattr__" = some (some (.builtin "object.__setattr__"))) (hp : (clsIn K C).any (fun cd => onlyExc cd.mro) = true) (ht : takerIn K C name = some none) (hh : hasDictIn K C = true)
    (hq : ∀ h' tk', h'.get? x = some { cls := .ref C, dict := some s.heap.objs.size, data := .fields vs } → h'.Ns1 s.heap.objs.size (fun y => if y = name then some v else none) → (∀ b o, b ≠ x → s.heap.get? b = some o → h'.get? b = some o) → Q () { s with heap := h', toks := tk' }) :
    wpAny (model prog w) A (setAttr (.ref x) name v) Q E s := by
  obtain ⟨cd, hc, hd'⟩ := any_some hh
  obtain ⟨hp0, g, dr, tk0, os⟩ := s
  have J : InstAt hp0 x { cls := .ref C, dict := none, data := .fields vs } C none := ⟨hx, rfl, rfl, trivial⟩
  refine set_plain (s := ⟨hp0, g, dr, tk0, os⟩) X J hs (osaE (s := ⟨hp0, g, dr, tk0 + 1, os⟩) X J hp ht fun b => ?_)
  refine wpAny_bind (wpAny_pure (wpAny_bind (wpAny_bind (wpAny_loadPart hx (wpAny_bind (Looks.here (s := ⟨hp0, g, dr, tk0 + 1, os⟩) (looks_clsIn X hc) ?_))))))
  rw [hd']
  have hx₁ : (hp0.push { cls := .type "dict", data := .dict #[] }).get? x = some { cls := .ref C, dict := none, data := .fields vs } := Heap.get?_push_of_some _ hx
  have hxs : x ≠ hp0.objs.size := Nat.ne_of_lt (Heap.lt_size hx)
  have hgd : ((hp0.push { cls := .type "dict", data := .dict #[] }).update x fun o => { cls := o.cls, dict := some hp0.objs.size, data := o.data, slots := o.slots }).get? hp0.objs.size = some { cls := .type "dict", data := .dict #[] } :=
    (Heap.get?_update_ne _ _ _ _ hxs.symm).trans (Heap.get?_push_at rfl rfl)
  have hnd : ((hp0.push { cls := .type "dict", data := .dict #[] }).update x fun o => { cls := o.cls, dict := some hp0.objs.size, data := o.data, slots := o.slots }).Ns hp0.objs.size (fun _ => none) :=
    ⟨_, #[], _, hgd, rfl, fun e he => absurd he (by simp), fun _ => rfl⟩
  show wpAny _ _ (do
    let d ← alloc { cls := Value.type "dict", data := Data.dict #[] }
    update x fun o => { cls := o.cls, dict := some d, data := o.data, slots := o.slots }
    dictMade (Value.ref C) x d) _ _ _
  refine wpAny_bind (wpAny_alloc' ?_)
  refine wpAny_bind (wpAny_update' hx₁ ?_)
  refine wpAny_pure ?_
  show wpAny _ _ (storeInDict hp0.objs.size (.str name _) name v) _ _ _
  unfold storeInDict newKeyGuard
  refine wpAny_bind (wpAny_pure (wpAny_bind (wpAny_nsSet1 (Heap.Ns1.of_empty hnd) fun h' hn' hs => ?_)))
  obtain ⟨oD, esD, epD, hoD, hdD, hcD⟩ := hn'.count (Within.cons name v Within.nil)
  refine wpAny_bind (wpAny_lookBehind hoD (by rw [hdD]; exact pastItsLine_dict (Nat.le_trans hcD (by rw [List.length_cons, List.length_nil, sizeLine_eq]; omega))) ?_)
  refine wpAny_pure ?_
  refine hq h' _ ?_ hn' (fun b o hbx hb => ?_)
  · exact (hs.2 x hxs).trans (Heap.get?_update_self _ hx₁ rfl)
  · exact (hs.2 b (Nat.ne_of_lt (Heap.lt_size hb))).trans ((Heap.get?_update_ne _ _ _ _ hbx).trans (Heap.get?_push_of_some _ hb))
/-- a further attribute of an error -/
theorem set_exc1 {vs : Array Value} {dx : Addr} {mA : Str → Option Value} {ns : List Str} {Q : Unit → Shared → Prop} (X : K.In s.heap) (hx : s.heap.get? x = some { cls := .ref C, dict := some dx, data := .fields vs }) (hn : s.heap.Ns1 dx mA) (hne : dx ≠ x)
    (hs : findIn K (.ref C) "__setattr__" = some (some (.builtin "object.__setattr__"))) (hp : (clsIn K C).any (fun cd => onlyExc cd.mro) = true) (ht : takerIn K C name = some none) (hh : hasDictIn K C = true)
    (hw : PySem.Within mA ns) (hsz : ns.length < sizeLine)
    (hq : ∀ h' tk', h'.Ns1 dx (fun y => if y = name then some v else mA y) → Heap.SameBut dx s.heap h' → Q () { s with heap := h', toks := tk' }) :
    wpAny (model prog w) A (setAttr (.ref x) name v) Q E s := by
  obtain ⟨cd, hc, hd'⟩ := any_some hh
  obtain ⟨hp0, g, dr, tk0, os⟩ := s
  obtain ⟨od, es, ep, ho, _⟩ := id hn
  have J : InstAt hp0 x { cls := .ref C, dict := some dx, data := .fields vs } C (some od) := ⟨hx, rfl, rfl, ho⟩
  refine set_plain (s := ⟨hp0, g, dr, tk0, os⟩) X J hs (osaE (s := ⟨hp0, g, dr, tk0 + 1, os⟩) X J hp ht fun b => ?_)
  refine wpAny_bind (wpAny_pure (wpAny_bind (wpAny_bind (wpAny_loadPart hx (wpAny_bind (Looks.here (s := ⟨hp0, g, dr, tk0 + 1, os⟩) (looks_clsIn X hc) ?_))))))
  rw [hd']
  refine wpAny_pure (a := some dx) (wpAny_bind (wpAny_pure (wpAny_bind ?_)))
  refine wpAny_nsSet1 (s := ⟨hp0, g, dr, tk0 + 1, os⟩) hn fun h' hn2 hs2 => ?_
  obtain ⟨oD, esD, epD, hoD, hdD, hcD⟩ := hn2.count (PySem.Within.cons name v hw)
  refine wpAny_bind (wpAny_lookBehind hoD (by rw [hdD]; exact pastItsLine_dict (Nat.le_trans hcD (by rw [List.length_cons]; omega))) ?_)
  exact wpAny_pure (hq _ _ hn2 hs2)
end
end L2

set_option Elab.async false
set_option linter.all false
set_option maxRecDepth 100000
set_option maxHeartbeats 200000
namespace L2
open PySem PySem.Spec PySem.Calls PySem.W Builtin Builtin.ObjectAttr
theorem oga_eq (self : Value) (name : Str) (tk : Tok) : ∃ rest : Value → Sem Fin, Builtin.«object.__getattribute__» ⟨[self, .str name tk], []⟩ = (typeOf self >>= fun tp => find self tp name >>= fun r => match r with
    | .value v => ret v
    | .bind g a => bindTo g a self tp
    | .missing => rest tp) := ⟨_, rfl⟩
section
variable {prog : Program} {w : World} {A : Around} {E : Value → Shared → Prop} {s : Shared} {K : Frag} {x C : Addr} {ox : Obj} {od : Option Obj} {name : Str} {expr : Bool} {Q : Value → Shared → Prop}
/-- an attribute of an error, that stands in its own dict -/
theorem get_exc {v : Value} (X : K.In s.heap) (I : InstAt s.heap x ox C od) (hga : findIn K (.ref C) "__getattribute__" = some (some (.builtin "BaseException.__getattribute__"))) (hgn : findIn K (.ref C) "__getattr__" = some none)
    (hb : mroIn K C (.type "BaseException") = some true) (hf : findObj K C od name = some (.value v)) (hh : handedIn v = true) (h : Q v { s with toks := s.toks + 1 }) : wpAny (model prog w) A (getAttr (.ref x) name expr) Q E s := by
  obtain ⟨hh', g, d, t, os⟩ := s
  have L0 := I.type (M := model prog w)
  have L1 := looks_findIn (M := model prog w) X hga
  have L2 := looks_findIn (M := model prog w) X hgn
  have LF := looks_find (M := model prog w) X I hf
  have LB : Looks (model prog w) hh' (isInstance (.ref x) (.type "BaseException")) true := L0.andThen (looks_mroIn X hb)
  have hx2 : (Value.builtin "BaseException.__getattribute__" == Value.builtin "object.__getattribute__") = false := by decide +kernel
  have f3 := PySem.F.attr_ValueError.ga.bind (.ref x)
  have hk : builtinKind "BaseException.__getattribute__" = some .slot := by decide +kernel
  have hsplit : splitId "BaseException.__getattribute__" = some ("BaseException", "__getattribute__") := by decide +kernel
  have hx0 : (expr && onTheHeap (Value.builtin "BaseException.__getattribute__")) = false := by cases expr <;> rfl
  unfold getAttr getAttrBy
  refine wpAny_bind (wpAny_mkText (wpAny_holding (wpAny_bind (L0.at (wpAny_bind (L1.at ?_))))))
  show wpAny _ _ (if (onTheHeap (Value.ref C) && Value.builtin "BaseException.__getattribute__" == Value.builtin "object.__getattribute__") = true then _ else getAttrByItsOwn _ _ _ _ _ _) _ _ _
  rw [hx2, Bool.and_false, if_neg Bool.false_ne_true]
  unfold getAttrByItsOwn hookBefore
  refine wpAny_bind (L2.at ?_)
  unfold callGetattribute
  simp only [hx0]
  refine wpAny_bind (wpAny_attempt (wpAny_holding ?_))
  rw [if_neg Bool.false_ne_true]
  unfold boundAndCalled
  rw [f3]
  refine wpAny_bind (wpAny_pure (wpAny_call ?_))
  show codeAny (model prog w) A (.call (.builtin "BaseException.__getattribute__") ⟨[.ref x, .str name t], []⟩) _ _
  refine codeAny_call_builtin PySem.F.attr_ValueError.ga.plain PySem.F.entry_bexc_ga ?_
  refine check_slot (i := "BaseException.__getattribute__") (self := .ref x) (rest := [.str name t]) (kw := []) (s := ⟨hh', g, d, t + 1, os⟩) hk hsplit LB (PySem.F.args_bexc_ga _ _) ?_
  obtain ⟨rest, er⟩ := oga_eq (.ref x) name t
  show wpAny _ _ (Builtin.«object.__getattribute__» ⟨[.ref x, .str name t], []⟩) _ _ _
  rw [er]
  refine wpAny_bind (L0.at (wpAny_bind (LF.at ?_)))
  refine wpAny_pure ?_
  show wpAny _ _ (handedOut v) _ _ _
  rw [handedOut_of hh]
  exact wpAny_pure h
end
section
variable {prog : Program} {w : World} {A : Around} {R : Result → Shared → Prop} {h : Heap} {g : Array GenState} {d : Drawn} {t : Nat} {os : OsState} {C : Addr} {bm : List Value}
theorem exc_check_init {M : Model} {E : Value → Shared → Prop} (Y : ExcCls h C bm) {e : Addr} {oe : Obj} {rest : List Value} {Q : Unit → Shared → Prop} (he : h.get? e = some oe) (hcls : oe.cls = .ref C) (hq : Q () ⟨h, g, d, t, os⟩) :
    wpAny M A (checkBuiltinCall "ValueError.__init__" ⟨.ref e :: rest, []⟩) Q E ⟨h, g, d, t, os⟩ := by
  obtain ⟨⟨nm, q, N, bs, hdct, sn, sub, ab, col, dd, k0, k1, k2, k3, k5, hC⟩, hV, hA, hN⟩ := Y
  have F := PySem.F.excBase_ValueError
  have hcB : (Value.ref C :: bm).contains (.type "ValueError") = true := by rw [List.contains_cons, hV, Bool.or_true]
  have hshort := F.noStar
  simp only [checkBuiltinCall, F.initKind, F.initSplit, F.initRow]
  repeat (first | (with_reducible refine wpAny_loadPart_at he ?_; rw [hcls]) | with_reducible refine wpAny_loadPart_at hC ?_ | (with_reducible refine wpAny_isSubtype_exc hC ?_; rw [hcB]) | wp_step)
  refine wpAny_onRaise ?_
  rw [show ∀ (a b : String) (n : Nat), Bind.check ⟨.positional, "*", "ValueError", .self, [⟨"args", .varPos, false⟩]⟩ a b n (List.map (fun x => x.fst) ({ pos := Value.ref e :: rest } : Args).kw) = pure () from
    fun a b n => check_star_args _ _ _ _ _ _]
  exact wpAny_pure hq
/-- ValueError.__init__(self, ..): the arguments' tuple is laid -/
theorem exc_init (Y : ExcCls h C bm) {e : Addr} {od : Option Addr} {t0 : Addr} {rest : List Value} (he : h.get? e = some { cls := .ref C, dict := od, data := .fields #[.ref t0, .none, .none, .none, .bool false, .none] })
    (hq : ∀ h', h'.get? e = some { cls := .ref C, dict := od, data := .fields #[.ref h.objs.size, .none, .none, .none, .bool false, .none] } → (∀ b o, b ≠ e → h.get? b = some o → h'.get? b = some o) → R (.ok (.ret .none)) ⟨h', g, d, t, os⟩) (hrest : rest.length ≤ sizeLine) :
    codeAny (model prog w) A (.call (.builtin "ValueError.__init__") ⟨.ref e :: rest, []⟩) R ⟨h, g, d, t, os⟩ := by
  have F := PySem.F.excBase_ValueError
  refine codeAny_call_builtin F.init.plain F.initEntry (exc_check_init Y he rfl ?_)
  have he1 := Heap.get?_push_of_some (tupObj rest) he
  wp_walk
  refine hq _ ?_ fun b o hb ho => ?_
  · rw [Heap.get?_update_self _ he1 rfl]
    rfl
  · rw [Heap.get?_update_other _ _ (Ne.symm hb)]
    exact Heap.get?_push_of_some _ ho
end
end L2

set_option Elab.async false
set_option linter.all false
set_option maxRecDepth 100000
/-! Rules for own errors: made, their attributes stored and read. -/
namespace L2
open PySem PySem.Spec PySem.W
/-- an own error that was made and not raised; its dict at od -/
def XO (a C : Addr) (od : Option Addr) : HO := .ext fun h => ∃ t : Addr, h.get? a = some { cls := .ref C, dict := od, data := .fields #[.ref t, .none, .none, .none, .bool false, .none] }
/-- an error's dict -/
def XD (d : Addr) (fs : List (Str × V)) : HO := .ext fun h => fs.length ≤ 1000 ∧ ∃ mA, h.Ns1 d mA ∧ (∀ f, RelO (fs.lookup f) (mA f)) ∧ PySem.Within mA (fs.map (·.1))
section
variable {P : Program} {w : World} {H : Hp} {h : Heap} {a C d : Addr} {od : Option Addr} {fs : List (Str × V)}
theorem XO.mk {t : Addr} (e : h.get? a = some { cls := .ref C, dict := od, data := .fields #[.ref t, .none, .none, .none, .bool false, .none] }) : ObjOk P w H h a (XO a C od) :=
  ⟨⟨t, e⟩, ⟨_, e⟩, fun h1 h2 ⟨t, p⟩ k => ⟨t, k _ p⟩⟩
theorem XO.get (x : ObjOk P w H h a (XO a C od)) : ∃ t : Addr, h.get? a = some { cls := .ref C, dict := od, data := .fields #[.ref t, .none, .none, .none, .bool false, .none] } := x.1
theorem XD.mk {mA : Str → Option Value} (hl : fs.length ≤ 1000) (n : h.Ns1 d mA) (r : ∀ f, RelO (fs.lookup f) (mA f)) (wi : PySem.Within mA (fs.map (·.1))) : ObjOk P w H h d (XD d fs) :=
  ⟨⟨hl, mA, n, r, wi⟩, (let ⟨o, _, _, e, _⟩ := n; ⟨o, e⟩), fun h1 h2 ⟨hl, mA, n, q⟩ k => ⟨hl, mA, n.at k, q⟩⟩
theorem XD.get (x : ObjOk P w H h d (XD d fs)) : fs.length ≤ 1000 ∧ ∃ mA, h.Ns1 d mA ∧ (∀ f, RelO (fs.lookup f) (mA f)) ∧ PySem.Within mA (fs.map (·.1)) := x.1
end
theorem upd_self {H : Hp} {a : Addr} {o : HO} (e : H a = some o) : upd H a o = H := by
  funext b
  by_cases q : b = a
  · rw [q, upd_same, e]
  · rw [upd_ne q]
/-- a class object that makes errors -/
def excObjOk (C : Addr) (o : Obj) : Bool := match o with
  | ⟨.type "type", _, .cls cd, sl⟩ => (match cd.mro, sl.toList with
    | .ref C' :: bm, [_, _, _, _, some (.builtin n), _] => C' == C && n == "ValueError.__new__" && !cd.hasDel && onlyExc bm
    | _, _ => false)
  | _ => false
theorem exc_no {l : List Value} {v : Value} (h : [Value.type "ValueError", .type "Exception", .type "BaseException", .type "object"].contains v = false) (hv : ∀ a, v ≠ .ref a) : onlyExc l = true → l.contains v = false := by
  induction l with
  | nil => intro e; cases e
  | cons a r ih =>
    intro e
    by_cases q : (a :: r) = [.type "ValueError", .type "Exception", .type "BaseException", .type "object"]
    · rw [q]; exact h
    · cases a with
      | ref c =>
        rw [List.contains_cons, ih (by unfold onlyExc at e; exact e), Bool.or_false]
        exact beq_eq_false_iff_ne.mpr (hv c)
      | _ => exact absurd (beq_iff_eq.mp e) q
/-- an own error class as the top has made it -/
structure XCls (K : Frag) (C : Addr) : Prop where
  lk : ∃ o, K.lookup C = some o ∧ excObjOk C o = true
  sa : findIn K (.ref C) "__setattr__" = some (some (.builtin "object.__setattr__"))
  ga : findIn K (.ref C) "__getattribute__" = some (some (.builtin "BaseException.__getattribute__"))
  gn : findIn K (.ref C) "__getattr__" = some none
  mb : mroIn K C (.type "BaseException") = some true
  hd : hasDictIn K C = true
  kp : keepIn K (.ref C) = true
  cc : findIn K (.ref C) "__class__" = some (some (.builtin "object.__class__"))
  mo : mroIn K C (.type "object") = some true
theorem XCls.at {K : Frag} {C : Addr} {h : Heap} (x : XCls K C) (X : K.In h) : ∃ bm, ExcCls h C bm := by
  obtain ⟨o, lk, ok⟩ := x.lk
  unfold excObjOk at ok
  split at ok
  · rename_i dd cd sl
    split at ok
    · rename_i C' bm k0 k1 k2 k3 n k5 hm hs
      simp only [Bool.and_eq_true, beq_iff_eq, Bool.not_eq_true'] at ok
      obtain ⟨⟨⟨rfl, rfl⟩, hdel⟩, ho⟩ := ok
      obtain ⟨nm, bs, mro, ns, qn, hd, sn, sub, ab, col, del⟩ := cd
      dsimp only at hm hdel
      subst hm hdel
      have hsl : sl = #[k0, k1, k2, k3, some (.builtin "ValueError.__new__"), k5] := by
        obtain ⟨l⟩ := sl
        simp only at hs
        rw [hs]
      subst hsl
      exact ⟨bm, ⟨nm, qn, ns, bs, hd, sn, sub, ab, col, dd, k0, k1, k2, k3, k5, X _ _ lk⟩, exc_has (by decide +kernel) ho, exc_no (by decide +kernel) (fun _ e => nomatch e) ho, exc_no (by decide +kernel) (fun _ e => nomatch e) ho⟩
    · cases ok
  · cases ok
theorem XCls.over {K : Frag} {C : Addr} (x : XCls K C) : (clsIn K C).any (fun cd => onlyExc cd.mro) = true := by
  obtain ⟨o, lk, ok⟩ := x.lk
  unfold excObjOk at ok
  split at ok
  · rename_i dd cd sl
    split at ok
    · rename_i C' bm k0 k1 k2 k3 n k5 hm hs
      simp only [Bool.and_eq_true, beq_iff_eq, Bool.not_eq_true'] at ok
      obtain ⟨⟨⟨rfl, rfl⟩, hdel⟩, ho⟩ := ok
      have hc : clsIn K C' = some cd := by unfold clsIn; rw [lk]
      rw [hc]
      show onlyExc cd.mro = true
      rw [hm]
      exact ho
    · cases ok
  · cases ok
section
variable {X : Cx} {pins : List (Addr × Obj)} {σ : St} {H : Hp} {s : Shared} {A : Around} {E : Value → Shared → Prop} {a C : Addr} {f : Str}
/-- x.f = y, the first attribute of an error -/
theorem xset0 {y : V} {u : Value} {Q : Unit → Shared → Prop} (I : Inv X pins σ H s) (e : H a = some (XO a C none)) (c : XCls X.K C) (n : NoAttr X.K C f) (ry : RelV y u)
    (h : ∀ s' d, H d = none → Inv X pins σ (upd (upd H d (XD d [(f, y)])) a (XO a C (some d))) s' → Q () s') : wpAny (model X.prog X.w) A (setAttr (.ref a) f u) Q E s := by
  obtain ⟨t, ho⟩ := XO.get (I.hok a _ e)
  refine set_exc0 I.kIn ho c.sa c.over n.taker c.hd fun h' tk' h1 h2 h3 => ?_
  have hd : H s.heap.objs.size = none := I.hok.fresh (Nat.le_refl _)
  have ne : a ≠ s.heap.objs.size := Nat.ne_of_lt (Heap.lt_size ho)
  refine h _ s.heap.objs.size hd ?_
  have okD : ∀ H', ObjOk X.prog X.w H' h' s.heap.objs.size (XD s.heap.objs.size [(f, y)]) := fun H' => by
    refine XD.mk (by show 1 ≤ 1000; decide) h2 (fun g => ?_) (fun g hg => ?_)
    · show RelO (List.lookup g [(f, y)]) (if g = f then some u else none)
      by_cases q : g = f
      · rw [if_pos q]
        have hb : (g == f) = true := beq_iff_eq.mpr q
        simp only [List.lookup, hb]
        exact ry
      · rw [if_neg q]
        have hb : (g == f) = false := beq_eq_false_iff_ne.mpr q
        simp only [List.lookup, hb]
        trivial
    · by_cases q : g = f
      · rw [q]; simp
      · exact absurd (show (if g = f then some u else none) = none by rw [if_neg q]) hg
  refine I.un (t' := tk') ⟨fun b o q hn _ _ => h3 b o (fun z => by rw [z, e] at hn; cases hn) q, fun b o q hn hb _ => ?_, fun b o q hn _ => ?_, fun b o q _ => ?_, fun b xs q => ?_, fun b o u q => ?_, fun b ps q => ⟨#[], ?_⟩⟩ fun b o q => ?_
  · exact ⟨o.slots, h3 b o (fun z => by rw [z, e] at hn; cases hn) q⟩
  · rw [upd_ne (fun z => by rw [z, e] at hn; cases hn), upd_ne (Nat.ne_of_lt (Heap.lt_size q))]
    exact hn
  · by_cases z : b = a
    · exact ⟨_, z ▸ h1⟩
    · exact ⟨o, h3 b o z q⟩
  · rw [upd_ne (fun z => by rw [z, e] at q; cases q), upd_ne (ne_of_none q hd)]
    exact q
  · rw [upd_ne (fun z => by rw [z, e] at q; cases q), upd_ne (ne_of_none q hd)]
    exact q
  · rw [upd_ne (fun z => by rw [z, e] at q; cases q), upd_ne (ne_of_none q hd), q]
    simp
  · by_cases z : b = a
    · subst z
      rw [upd_same] at q
      cases q
      exact XO.mk h1
    · rw [upd_ne z] at q
      by_cases z2 : b = s.heap.objs.size
      · subst z2
        rw [upd_same] at q
        cases q
        exact okD _
      · rw [upd_ne z2] at q
        refine (I.hok b o q).stay (fun c v hc r => h3 c v ?_ r) (fun c r => ?_) fun c xs fx r => ?_
        · rintro rfl
          rcases hc with r' | r'
          · exact z r'.symm
          · rw [e] at r'; cases r'
        · rw [upd_ne (fun y => by rw [y, e] at r; cases r), upd_ne (ne_of_none r hd)]
          exact r
        · rw [upd_ne (fun y => by rw [y, e] at r; cases r; exact fx), upd_ne (ne_of_none r hd)]
          exact r
/-- x.f = y, a further attribute -/
theorem xset1 {y : V} {u : Value} {d : Addr} {fs : List (Str × V)} {Q : Unit → Shared → Prop} (I : Inv X pins σ H s) (e : H a = some (XO a C (some d))) (ed : H d = some (XD d fs)) (hne : d ≠ a) (c : XCls X.K C) (n : NoAttr X.K C f) (hl : fs.length < 1000) (ry : RelV y u)
    (h : ∀ s', Inv X pins σ (upd H d (XD d (putF f y fs))) s' → Q () s') : wpAny (model X.prog X.w) A (setAttr (.ref a) f u) Q E s := by
  obtain ⟨t, ho⟩ := XO.get (I.hok a _ e)
  obtain ⟨_, mA, hn, r, wi⟩ := XD.get (I.hok d _ ed)
  refine set_exc1 I.kIn ho hn hne c.sa c.over n.taker c.hd wi (by rw [List.length_map, sizeLine_eq]; omega) fun h' tk' h1 sb => h _ ?_
  have hd : ∃ o, h'.get? d = some o := let ⟨o, _, _, e', _⟩ := h1; ⟨o, e'⟩
  refine I.write (x := d) (e := d) (t' := tk') (by rw [ed]; exact True.intro) (.inl rfl) (fun b q hb z => (sb.2 b hb).trans z) hd ?_
  refine XD.mk (by have := length_putF f y fs; omega) h1 (fun g => ?_) (fun g hg => ?_)
  · show RelO ((putF f y fs).lookup g) (if g = f then some u else mA g)
    rw [lookup_putF]
    by_cases q : g = f
    · rw [if_pos q, if_pos q]; exact ry
    · rw [if_neg q, if_neg q]; exact r g
  · by_cases q : g = f
    · rw [q]; exact (keys_putF f y fs).1
    · refine (keys_putF f y fs).2 g (wi g fun z => hg ?_)
      show (if g = f then some u else mA g) = none
      rw [if_neg q]; exact z
end
end L2

set_option Elab.async false
set_option linter.all false
set_option maxRecDepth 100000
namespace L2
open PySem PySem.Spec PySem.W PyProof.Rows
section
variable {X : Cx} {pins : List (Addr × Obj)} {σ : St} {H : Hp} {s : Shared} {A : Around} {E : Value → Shared → Prop} {a C : Addr} {f : Str}
end
/-- e.f of an error -/
def tXFld (K : Frag) (ta : TE) (f : Str) : TE := fun σ H Q => ta σ H fun x H1 => ∃ a C d fs v, x = .ref a ∧ H1 a = some (XO a C (some d)) ∧ H1 d = some (XD d fs) ∧ XCls K C ∧ NoAttr K C f ∧ fs.lookup f = some v ∧ Q v H1
/-- e.f = value, the first one and a further one -/
def sXFld0 (K : Frag) (ta tv : TE) (f : Str) : TS := fun D σ H => tv σ H fun y H1 => ta σ H1 fun x H2 => ∃ a C, x = .ref a ∧ H2 a = some (XO a C none) ∧ XCls K C ∧ NoAttr K C f ∧ ∀ d, H2 d = none → D.nx σ (upd (upd H2 d (XD d [(f, y)])) a (XO a C (some d)))
def sXFld1 (K : Frag) (ta tv : TE) (f : Str) : TS := fun D σ H => tv σ H fun y H1 => ta σ H1 fun x H2 => ∃ a C d fs, x = .ref a ∧ H2 a = some (XO a C (some d)) ∧ H2 d = some (XD d fs) ∧ d ≠ a ∧ XCls K C ∧ NoAttr K C f ∧ fs.length < 1000 ∧ D.nx σ (upd H2 d (XD d (putF f y fs)))
section
variable {X : Cx} {o e value : Expr} {f : Str} {pos pos' : Pos} {ta tv : TE}
theorem ps_xfld0 (ha : PE X o ta) (hv : PE X value tv) (hs : swapsWith value (some (.Attribute o f pos')) pos.line X.env = pure false) : PS X (.Assign [.Attribute o f pos'] value pos) (sXFld0 X.K ta tv f) := by
  intro pins s σ H D I h
  refine plainObj_wpAny_Assign_Attribute (thn (hv pins s σ H _ I h) fun u s1 ⟨y, H1, I1, ry, q⟩ => thn (ha pins s1 σ H1 _ I1 q) fun ov s2 ⟨x, H2, I2, rx, a, C, ex, ea, c, n, q2⟩ => ?_) hs
  subst ex
  obtain rfl : ov = Value.ref a := rx
  exact xset0 I2 ea c n ry fun s3 d hd I3 => ⟨σ, _, I3, q2 d hd⟩
theorem ps_xfld1 (ha : PE X o ta) (hv : PE X value tv) (hs : swapsWith value (some (.Attribute o f pos')) pos.line X.env = pure false) : PS X (.Assign [.Attribute o f pos'] value pos) (sXFld1 X.K ta tv f) := by
  intro pins s σ H D I h
  refine plainObj_wpAny_Assign_Attribute (thn (hv pins s σ H _ I h) fun u s1 ⟨y, H1, I1, ry, q⟩ => thn (ha pins s1 σ H1 _ I1 q) fun ov s2 ⟨x, H2, I2, rx, a, C, d, fs, ex, ea, ed, ne, c, n, l, q2⟩ => ?_) hs
  subst ex
  obtain rfl : ov = Value.ref a := rx
  exact xset1 I2 ea ed ne c n l ry fun s3 I3 => ⟨σ, _, I3, q2⟩
end
/-- C(..) of an own error class -/
def tMakeX (C : Addr) (sp : Sp) (t : TA) : TE := fun σ H Q => t σ H fun vs H1 => ∀ x, H1 x = none → sp (.ref x :: vs) (upd H1 x (XO x C none)) (fun v H2 => v = .non ∧ Q (.ref x) H2) E0
/-- an own error class that is made by its name -/
structure CalX (P : Program) (w : World) (K : Frag) (mg : Str → Option Value) (base : Heap) (k : Nat) (x : Str) (C : Addr) (ps : List Str) (sp : Sp) : Prop where
  ex : ∃ f fd, FnOk P w K mg base CX0 k f fd ps sp ∧ findIn K (.ref C) "__init__" = some (some (.ref f)) ∧ typeIn K (.ref f) = some (.type "function") ∧ Binds K fd ps []
  cls : XCls K C
  nm : mg x = some (.ref C)
  few : ps.length ≤ 1000
section
variable {X : Cx} {k j : Nat} {x : Str} {C : Addr} {ps : List Str} {sp : Sp} {p pos : Pos} {e : Expr} {es : List Expr} {t : TA}
theorem Inv.madeX {pins : List (Addr × Obj)} {σ : St} {H : Hp} {s : Shared} {us : List Value} (I : Inv X pins σ H s) : Inv X pins σ (upd H (s.heap.objs.size + 1) (XO (s.heap.objs.size + 1) C none)) { s with heap := (s.heap.push (tupObj us)).push (excObj C s.heap.objs.size) } := by
  have e2 : ((s.heap.push (tupObj us)).push (excObj C s.heap.objs.size)).get? (s.heap.objs.size + 1) = some (excObj C s.heap.objs.size) := by
    have := Heap.get?_push_size (s.heap.push (tupObj us)) (o := excObj C s.heap.objs.size) rfl
    rwa [Heap.size_push] at this
  have I1 := I.kept (h' := s.heap.push (tupObj us)) (t' := s.toks) (fun b u q => Heap.get?_push_of_some _ q)
  refine I1.laid (a := s.heap.objs.size + 1) (o := XO (s.heap.objs.size + 1) C none) (t' := s.toks) (fun b u q => Heap.get?_push_of_some _ q) (Nat.le_of_eq (Heap.size_push _ _)) ?_
  exact XO.mk e2
theorem run_makeX {pins : List (Addr × Obj)} {σ : St} {H : Hp} {s : Shared} {Q : VK} {us : List Value} {vs : List V} (F : CalX X.prog X.w X.K X.mg X.base k x C ps sp) (hr : Room (k + 1) X.A) (I : Inv X pins σ H s) (r : Vals vs us)
    (h : ∀ x, H x = none → sp (.ref x :: vs) (upd H x (XO x C none)) (fun v H2 => v = .non ∧ Q (.ref x) H2) E0) : wpAny (model X.prog X.w) X.A (call (.ref C) us) (EP X pins σ Q) X.xe s := by
  obtain ⟨f, fd, G, hi, hf, hb⟩ := F.ex
  obtain ⟨bm, Y⟩ := F.cls.at I.kIn
  have hq := h (s.heap.objs.size + 1) (I.hok.fresh (Nat.le_succ _))
  have I2 := Inv.madeX (C := C) (us := us) I
  have r2 : Vals (V.ref (s.heap.objs.size + 1) :: vs) (Value.ref (s.heap.objs.size + 1) :: us) := .cons rfl r
  have hl : (Value.ref (s.heap.objs.size + 1) :: us).length = ps.length := by
    have e := r2.length
    rw [G.len _ _ _ _ hq] at e
    exact e.symm
  have hus : us.length ≤ sizeLine := by
    have := F.few
    have q : us.length + 1 = ps.length := hl
    rw [sizeLine_eq]
    omega
  obtain ⟨hp0, g, dr, tk, os⟩ := s
  refine wpAny_call (make_exc (h := hp0) I.kIn Y hi hf hus (codeAny_mono (G.run _ X.stack _ _ ⟨Value.ref (hp0.objs.size + 1) :: us, []⟩ (Value.ref (hp0.objs.size + 1) :: us) _ _ E0 (hr.make C us [])
    (I2.env0.make C us []) (by have := hb _ (Value.ref (hp0.objs.size + 1) :: us) I2.kIn (by rw [List.append_nil]; exact hl); rwa [List.append_nil] at this) r2 hq) fun r s' hq' => ?_))
  cases r with
  | error e => exact False.elim hq'
  | ok fl =>
    cases fl with
    | ret u =>
      obtain ⟨v, H', I3, rv, ev, q3⟩ := I2.after hq'
      subst ev
      exact ⟨rv, ⟨V.ref (hp0.objs.size + 1), H', I3, rfl, q3⟩⟩
    | next => exact False.elim hq'
    | brk => exact False.elim hq'
    | cont => exact False.elim hq'
theorem pe_newx (F : CalX X.prog X.w X.K X.mg X.base k x C ps sp) (hr : Room j X.A) (ha : PA X (e :: es) t) (hg : Gl X x := by rfl) (hjk : k + 1 ≤ j := by decide) (hdb : (x == ("__debug__" : Str)) = false := by decide)
    (he : starEach (e :: es) X.env = (false, eval e X.env) :: starEach es X.env := by rfl) (hpl : (backTo pos (starEach es X.env)).any (·.1) = false := by rfl) : PE X (.Call (.Name x p) (e :: es) [] pos) (tMakeX C sp t) := by
  intro pins s σ H Q I h
  refine wpAny_Call_Name_kw (ld_glob I hg F.nm ?_ hdb)
  refine callWith_K (h₀ := X.base) I.ok.mod.kin F.cls.kp (thn (ha pos pins s σ H _ I h) fun us s1 ⟨vs, H1, I1, r, q⟩ => ⟨I1.kIn, ?_⟩) he hpl
  exact run_makeX F (hr.mono hjk) I1 r q
end
end L2

set_option Elab.async false
set_option linter.all false
set_option maxRecDepth 100000
namespace L2
open PySem PySem.Spec PySem.W PyProof.Rows
section
variable {X : Cx}
/-- ValueError.__init__(self, y) of an own error -/
theorem call_vinit : CallR X (.builtin "ValueError.__init__") (fun xs H Q => ∃ a C od y, xs = [.ref a, y] ∧ H a = some (XO a C od) ∧ XCls X.K C ∧ Q .non H) := by
  intro pins s σ H xs us Q I r h
  obtain ⟨a, C, od, y, rfl, ea, c, q⟩ := h
  obtain ⟨u, v, rfl, ru, rv⟩ := vals2 r
  cases ru
  obtain ⟨bm, Y⟩ := c.at I.kIn
  obtain ⟨t, ho⟩ := XO.get (I.hok a _ ea)
  obtain ⟨hp0, g, dr, tk, os⟩ := s
  refine wpAny_call (exc_init Y ho (fun h' h1 h2 => ?_) (by show 1 ≤ sizeLine; decide))
  have I2 := I.write (x := a) (e := a) (h' := h') (t' := tk) (o := XO a C od) (by rw [ea]; exact True.intro) (.inl rfl) (fun b o hb z => h2 b o hb z) ⟨_, h1⟩ (XO.mk h1)
  rw [upd_self ea] at I2
  exact ⟨.non, H, I2, rfl, q⟩
/-- Base.m(self, ..), Base an own class by its name -/
structure ClsM (K : Frag) (C : Addr) (m : Str) (f : Addr) : Prop where
  ga : specialIn K (.ref C) "__getattribute__" = some (some (.builtin "type.__getattribute__"))
  rd : readsIn K C (.type "type") = true
  fc : findCls K (.ref C) (.type "type") m = some (.val (.ref f))
  kp : keepIn K (.ref f) = true
theorem pe_clsm {k j : Nat} {x m : Str} {C f : Addr} {fd : FuncData} {ps : List Str} {sp : Sp} {p apos pos : Pos} {e : Expr} {es : List Expr} {t : TA} {pl : Sem Bool} (hm : X.mg x = some (.ref C)) (cm : ClsM X.K C m f)
    (F : FnOk X.prog X.w X.K X.mg X.base CX0 k f fd ps sp) (hb : Binds X.K fd ps []) (hr : Room j X.A) (ha : PA X (e :: es) t) (hg : Gl X x := by rfl) (hjk : k ≤ j := by decide) (hdb : (x == ("__debug__" : Str)) = false := by decide)
    (hst : starEach (e :: es) X.env = (false, eval e X.env) :: starEach es X.env := by rfl) (hpl : (backTo pos (starEach es X.env)).any (·.1) = false := by rfl)
    (ht : eval (.Call (.Attribute (.Name x p) m apos) (e :: es) [] pos) X.env = (do
      let ov ← eval (.Name x p) X.env
      standAt apos.atName
      let (f, first) ← holding [ov] (getMethod ov m pl)
      callWith pos f first (backTo pos (starEach (e :: es) X.env)) (backToKw pos (keywordEach [] X.env))) := by rfl) :
    PE X (.Call (.Attribute (.Name x p) m apos) (e :: es) [] pos) (tCall sp [] E0 t) := by
  intro pins s σ H Q I h
  refine methodCall_KW (pl := pl) (ld_glob I hg hm ?_ hdb) ht
  refine method_cls I.kIn cm.ga (cls_value I.kIn cm.rd cm.fc rfl ?_)
  refine callWith_K (first := []) (h₀ := X.base) I.ok.mod.kin cm.kp (thn (ha pos pins _ σ H _ (I.tok _) h) fun us s2 ⟨vs, H2, I2, r, q2⟩ => ⟨I2.kIn, ?_⟩) hst hpl
  exact run_fn F (hr.mono hjk) hb .nil pass0 I2 r q2
theorem vinit_found (K : Frag) : findCls K (.type "ValueError") (.type "type") "__init__" = some (.val (.builtin "ValueError.__init__")) := by kernel_rfl
theorem vinit_ty : typeOf (.type "ValueError") = pure (.type "type") := by kernel_rfl
theorem vinit_stub : Manifest.isStub "ValueError" = false := by decide +kernel
theorem vinit_handed : handedIn (.builtin "ValueError.__init__") = true := by decide +kernel
/-- ValueError.__init__(self, y) -/
theorem pe_vinit {p apos pos : Pos} {e1 e2 : Expr} {t : TA} {pl : Sem Bool} (hm : X.mg "ValueError" = none) (ha : PA X [e1, e2] t) (hg : Gl X "ValueError" := by rfl)
    (hst : starEach [e1, e2] X.env = (false, eval e1 X.env) :: starEach [e2] X.env := by rfl) (hpl : (backTo pos (starEach [e2] X.env)).any (·.1) = false := by rfl)
    (ht : eval (.Call (.Attribute (.Name "ValueError" p) "__init__" apos) [e1, e2] [] pos) X.env = (do
      let ov ← eval (.Name "ValueError" p) X.env
      standAt apos.atName
      let (f, first) ← holding [ov] (getMethod ov "__init__" pl)
      callWith pos f first (backTo pos (starEach [e1, e2] X.env)) (backToKw pos (keywordEach [] X.env))) := by rfl) :
    PE X (.Call (.Attribute (.Name "ValueError" p) "__init__" apos) [e1, e2] [] pos) (tCB (fun xs H Q => ∃ a C od y, xs = [.ref a, y] ∧ H a = some (XO a C od) ∧ XCls X.K C ∧ Q .non H) t) := by
  intro pins s σ H Q I h
  refine methodCall_KW (pl := pl) (ld_blt (u := .type "ValueError") I hg hm (by decide +kernel) ?_) ht
  obtain ⟨m, Fr0⟩ := I.fr
  refine method_type (T := "ValueError") (v := .builtin "ValueError.__init__") Fr0 I.ok.mod.kin vinit_ty vinit_stub (vinit_found X.K) vinit_handed ?_
  show wpAny (model X.prog X.w) X.A (callWith pos (.builtin "ValueError.__init__") [] (backTo pos (starEach [e1, e2] X.env)) (backToKw pos (keywordEach [] X.env))) _ _ _
  exact callWith_builtin1 (thn (ha pos pins _ σ H _ (I.tok _) h) fun us s1 ⟨vs, H1, I1, r1, q1⟩ => call_vinit pins s1 σ H1 vs us Q I1 r1 q1) hst hpl
end
end L2

set_option Elab.async false
set_option linter.all false
set_option maxRecDepth 100000
namespace L2
open PySem PySem.Spec PySem.Calls PySem.W Builtin Builtin.ObjectAttr
theorem cls_get (K : Frag) : specialIn K (.builtin "object.__class__") "__get__" = some (some (.builtin "getset_descriptor.__get__")) := by kernel_rfl
theorem cls_takes (K : Frag) : takesIn K (.builtin "object.__class__") = some true := by kernel_rfl
section
variable {prog : Program} {w : World} {A : Around} {E : Value → Shared → Prop} {s : Shared} {K : Frag} {x C : Addr} {ox : Obj} {od : Option Obj}
/-- an error's __class__ -/
theorem xclass {Q : Option Value → Shared → Prop} (X : K.In s.heap) (I : InstAt s.heap x ox C od) (c : XCls K C) (h : Q (some (.ref C)) { s with toks := s.toks + 1 }) : wpAny (model prog w) A (getAttr? (.ref x) "__class__") Q E s := by
  have hf : findObj K C od "__class__" = some (.bind (.builtin "getset_descriptor.__get__") (.builtin "object.__class__")) := by
    obtain ⟨cd, hc, _⟩ := any_some c.hd
    unfold findObj
    rw [hc, Option.bind_some, c.cc, Option.bind_some]
    dsimp only
    rw [cls_get K, Option.bind_some]
    dsimp only
    rw [cls_takes K]
    rfl
  obtain ⟨hh', g, d, t, os⟩ := s
  have L0 := I.type (M := model prog w)
  have L1 := looks_findIn (M := model prog w) X c.ga
  have L2 := looks_findIn (M := model prog w) X c.gn
  have LF := looks_find (M := model prog w) X I hf
  have LB : Looks (model prog w) hh' (isInstance (.ref x) (.type "BaseException")) true := L0.andThen (looks_mroIn X c.mb)
  have hx2 : (Value.builtin "BaseException.__getattribute__" == Value.builtin "object.__getattribute__") = false := by decide +kernel
  have f3 := PySem.F.attr_ValueError.ga.bind (.ref x)
  have hk : builtinKind "BaseException.__getattribute__" = some .slot := by decide +kernel
  have hsplit : splitId "BaseException.__getattribute__" = some ("BaseException", "__getattribute__") := by decide +kernel
  unfold getAttr? getAttrBy?
  refine wpAny_bind (wpAny_mkText (wpAny_bind (wpAny_attempt ?_)))
  unfold getAttrBy
  refine wpAny_holding (wpAny_bind (L0.at (wpAny_bind (L1.at ?_))))
  show wpAny _ _ (if (onTheHeap (Value.ref C) && Value.builtin "BaseException.__getattribute__" == Value.builtin "object.__getattribute__") = true then _ else getAttrByItsOwn _ _ _ _ _ _) _ _ _
  rw [hx2, Bool.and_false, if_neg Bool.false_ne_true]
  unfold getAttrByItsOwn hookBefore
  refine wpAny_bind (L2.at ?_)
  unfold callGetattribute
  refine wpAny_bind (wpAny_attempt (wpAny_holding ?_))
  rw [Bool.false_and, if_neg Bool.false_ne_true]
  unfold boundAndCalled
  rw [f3]
  refine wpAny_bind (wpAny_pure (wpAny_call ?_))
  show codeAny (model prog w) A (.call (.builtin "BaseException.__getattribute__") ⟨[.ref x, .str "__class__" t], []⟩) _ _
  refine codeAny_call_builtin PySem.F.attr_ValueError.ga.plain PySem.F.entry_bexc_ga ?_
  refine check_slot (i := "BaseException.__getattribute__") (self := .ref x) (rest := [.str "__class__" t]) (kw := []) (s := ⟨hh', g, d, t + 1, os⟩) hk hsplit LB (PySem.F.args_bexc_ga _ _) ?_
  obtain ⟨rest, er⟩ := oga_eq (.ref x) "__class__" t
  show wpAny _ _ (Builtin.«object.__getattribute__» ⟨[.ref x, .str "__class__" t], []⟩) _ _ _
  rw [er]
  refine wpAny_bind (L0.at (wpAny_bind (LF.at ?_)))
  show wpAny _ _ (holding [Value.builtin "object.__class__"] (call (.builtin "getset_descriptor.__get__") [.builtin "object.__class__", .ref x, .ref C]) >>= ret) _ _ _
  refine wpAny_bind (wpAny_holding (wpAny_call (class_get (s := ⟨hh', g, d, t + 1, os⟩) X I c.mo ?_)))
  refine wpAny_pure ?_
  show wpAny _ _ (handedOut (.ref C)) _ _ _
  rw [handedOut_of rfl]
  exact wpAny_pure (wpAny_pure h)
theorem kitx_exc (c : XCls K C) : KitX K (.ref x) (.ref C) (fun h => ∃ ox od, InstAt h x ox C od) where
  ty := fun _ _ _ ⟨_, _, I⟩ => I.type
  it := fun _ _ X _ => by
    obtain ⟨cdD, hcD, _⟩ := any_some c.hd
    unfold clsIn at hcD
    split at hcD
    · rename_i c' d' cd' sl' ho
      intro A' Q' E' s' k q
      unfold isType loadHead
      exact wpAny_bind (wpAny_loadPart (k _ _ (X _ _ ho)) (wpAny_pure q))
    · cases hcD
  ne := fun h tp dd its n sl X htp => by
    obtain ⟨cdD, hcD, _⟩ := any_some c.hd
    refine Bool.eq_false_iff.mpr fun q => ?_
    have e : C = tp := Value.ref.inj (beq_iff_eq.mp q)
    subst e
    unfold clsIn at hcD
    split at hcD
    · rename_i c' d' cd' sl' ho
      have z := (X _ _ ho).symm.trans htp
      cases z
    · cases hcD
  ca := fun X ⟨_, _, I⟩ k => xclass X I c k
end
section
variable {X : Cx}
end
end L2

set_option Elab.async false
set_option linter.all false
set_option maxRecDepth 100000
/-! Own errors raised, passed on, caught. -/
namespace L2
open PySem PySem.Spec PySem.W PyProof.Rows
/-- the newest entry of an error's trace, as it stands in the error -/
def trV : Option Addr → Value
  | none => .none
  | some T => .ref T
/-- an error's dict, and whether it was raised while another one was handled -/
structure Od where
  d : Option Addr
  cx : Bool
instance : Coe (Option Addr) Od := ⟨fun d => ⟨d, false⟩⟩
/-- an error that flies or was caught: its class, its dict, its trace; none was handled when it was raised, but where it is told so -/
def XR (a C : Addr) (od : Od) (oT : Option Addr) : HO := .ext fun h => ∃ vs : Array Value, h.get? a = some { cls := .ref C, dict := od.d, data := .fields vs } ∧ vs[1]? = some (trV oT) ∧ vs.size = 6 ∧ (od.cx = false → vs[2]? = some .none)
/-- an entry of a trace -/
def XT (T : Addr) : HO := .ext fun h => ∃ (o : Obj) (ts : Array Value), h.get? T = some o ∧ o.data = .fields ts ∧ 3 < ts.size
section
variable {P : Program} {w : World} {H : Hp} {h : Heap} {a C T : Addr} {od : Od} {oT : Option Addr}
theorem XR.mk {vs : Array Value} (e : h.get? a = some { cls := .ref C, dict := od.d, data := .fields vs }) (e1 : vs[1]? = some (trV oT)) (e2 : vs.size = 6) (e3 : od.cx = false → vs[2]? = some .none) : ObjOk P w H h a (XR a C od oT) :=
  ⟨⟨vs, e, e1, e2, e3⟩, ⟨_, e⟩, fun h1 h2 ⟨vs, p, q⟩ k => ⟨vs, k _ p, q⟩⟩
theorem XR.get (x : ObjOk P w H h a (XR a C od oT)) : ∃ vs : Array Value, h.get? a = some { cls := .ref C, dict := od.d, data := .fields vs } ∧ vs[1]? = some (trV oT) ∧ vs.size = 6 ∧ (od.cx = false → vs[2]? = some .none) := x.1
theorem XT.mk {o : Obj} {ts : Array Value} (e : h.get? T = some o) (d : o.data = .fields ts) (z : 3 < ts.size) : ObjOk P w H h T (XT T) :=
  ⟨⟨o, ts, e, d, z⟩, ⟨_, e⟩, fun h1 h2 ⟨o, ts, p, q⟩ k => ⟨o, ts, k _ p, q⟩⟩
theorem XT.get (x : ObjOk P w H h T (XT T)) : ∃ (o : Obj) (ts : Array Value), h.get? T = some o ∧ o.data = .fields ts ∧ 3 < ts.size := x.1
end
/-- all but the error stays -/
def Xt (a : Addr) (H H' : Hp) : Prop := ∀ b o, b ≠ a → H b = some o → H' b = some o
theorem Xt.refl (a : Addr) (H : Hp) : Xt a H H := fun _ _ _ h => h
theorem Xt.trans {a : Addr} {H H1 H2 : Hp} (x : Xt a H H1) (y : Xt a H1 H2) : Xt a H H2 := fun b o n h => y b o n (x b o n h)
theorem Xt.upd {a : Addr} {H : Hp} {o : HO} : Xt a H (upd H a o) := fun b u n h => by
  rw [upd_ne n]
  exact h
theorem Xt.same {a : Addr} {H H1 H2 : Hp} (x : Xt a H1 H2) (s : Same H H1) (n : H a = none) : Same H H2 := fun b o h => x b o (fun z => by rw [z, n] at h; cases h) (s b o h)
/-- what its trace is -/
def TrOk (H : Hp) (a : Addr) (oT : Option Addr) : Prop := ∀ T, oT = some T → H T = some (XT T) ∧ T ≠ a
/-- the wish E holds of the error at a from H on -/
def EAll (E : XK) (a C : Addr) (od : Od) (H : Hp) : Prop := ∀ (H' : Hp) (oT : Option Addr), Xt a H H' → H' a = some (XR a C od oT) → E (.ref a) (some C) H'
theorem EAll.on {E : XK} {a C : Addr} {od : Od} {H H1 : Hp} (h : EAll E a C od H) (x : Xt a H H1) : EAll E a C od H1 := fun H' oT y e => h H' oT (x.trans y) e
section
variable {X : Cx} {pins : List (Addr × Obj)} {σ : St} {H : Hp} {s : Shared} {M : Model} {A : Around} {E : Value → Shared → Prop} {a C : Addr} {od : Od} {oT : Option Addr}
theorem Inv.slots {h' : Heap} (I : Inv X pins σ H s) (z : Heap.SlotsOnly (frs X.stack) s.heap h') : Inv X pins σ H { s with heap := h' } := by
  have out : ∀ b o, H b = some o → b ∉ frs X.stack := fun b o e hb => by
    rw [I.stkFree b hb] at e
    cases e
  refine I.call (h' := h') (g' := s.gens) (t' := s.toks) (d' := s.drawn) (ch := []) ⟨fun b o e _ hb _ => (z.2.1 b hb).trans e, fun b o e _ _ _ => z.2.2 b o e, fun b o _ n _ => n, fun b o e _ => ?_, fun b xs e => e, fun b o u e => e, fun b ps e => ⟨#[], by rw [e]; simp⟩⟩ (fun b o e => ?_) I.bare fun b hb => nomatch hb
  · obtain ⟨sl, q⟩ := z.2.2 b o e
    exact ⟨_, q⟩
  · refine (I.hok b o e).stay (fun c u hc q => (z.2.1 c ?_).trans q) (fun _ q => q) fun _ _ _ q => q
    rcases hc with rfl | hc
    · exact out _ _ e
    · exact out _ _ hc
/-- a trace's entry is written -/
theorem Inv.trw {T : Addr} {o : Obj} {ts : Array Value} {i : Nat} {x : Value} (I : Inv X pins σ H s) (eT : H T = some (XT T)) (hT : s.heap.get? T = some o) (hd : o.data = .fields ts) (hz : 3 < ts.size) :
    Inv X pins σ H { s with heap := s.heap.update T (Obj.mapFields (·.setIfInBounds i x)) } := by
  have hd' := Obj.data_mapFields hd (·.setIfInBounds i x)
  have g := Heap.get?_update_self (Obj.mapFields (·.setIfInBounds i x)) hT (Obj.isFreed_of_fields hd')
  have I2 := I.write (x := T) (e := T) (o := XT T) (h' := s.heap.update T (Obj.mapFields (·.setIfInBounds i x))) (t' := s.toks) (by rw [eT]; exact True.intro) (.inl rfl) (fun b u n q => (Heap.get?_update_other _ _ (Ne.symm n)).trans q) ⟨_, g⟩
    (XT.mk g hd' (by rw [Array.size_setIfInBounds]; exact hz))
  rwa [upd_self eT] at I2
/-- a new entry is laid -/
theorem entry_ok {L : Addr} {head : Value} {nx : Bool} {Q : Unit → Shared → Prop} (I : Inv X pins σ H s) (hfr : A.frames = some X.stack) (hst : X.stack = X.env :: X.outer) (hf : X.env.frame = some L) (ea : H a = some (XR a C od oT))
    (h : ∀ s' H' T, Inv X pins σ H' s' → Xt a H H' → H' a = some (XR a C od (some T)) → H' T = some (XT T) → T ≠ a → Q () s') :
    wpAny M A (do
      let fr ← frameOf X.env
      let where_ ← entryPlaceOf L nx
      let new ← EntryCells.newEntry head fr .none (rawInt L) .none where_
      setField (.ref a) 1 new) Q E s := by
  refine wpAny_bind (wpAny_frameOf_fun (base := X.base) (hfr.trans (congrArg some hst)) (by rw [← hst]; exact I.stack) hf fun h₁ z => ?_)
  have I1 := I.slots (by rw [hst]; exact z)
  refine wpAny_bind (wpAny_entryPlaceOf fun pl hpl => ?_)
  unfold EntryCells.newEntry newFields
  refine wpAny_bind (wpAny_newObj_type ?_ (hpl.sizeOk5 _ _ _ _ _))
  have hn : H h₁.objs.size = none := I1.hok.fresh (Nat.le_refl _)
  have I2 := I1.laid (a := h₁.objs.size) (o := XT h₁.objs.size) (t' := s.toks) (h' := h₁.push { cls := .type "traceback", dict := none, data := .fields ([head, .ref L, .none, rawInt L, .none] ++ (if pl.isEmpty then List.replicate 6 Value.none else pl)).toArray })
    (fun b u e => Heap.get?_push_of_some _ e) (Nat.le_refl _) (XT.mk (Heap.get?_push_size _ rfl) rfl (by simp only [List.size_toArray, List.length_append, List.length_cons, List.length_nil]; omega))
  have ne : a ≠ h₁.objs.size := ne_of_none ea hn
  have ea2 : (upd H h₁.objs.size (XT h₁.objs.size)) a = some (XR a C od oT) := by rw [upd_ne ne]; exact ea
  obtain ⟨vs, ho, h1, h6, h2⟩ := XR.get (I2.hok a _ ea2)
  have hz : 1 < vs.size := (Array.getElem?_eq_some_iff.mp h1).1
  refine wpAny_setField ho rfl hz ?_
  have g := Heap.get?_update_self (Obj.mapFields (·.setIfInBounds 1 (Value.ref h₁.objs.size))) ho (Obj.isFreed_of_fields (Obj.data_mapFields rfl _))
  have I3 := I2.write (x := a) (e := a) (o := XR a C od (some h₁.objs.size)) (t' := s.toks) (h' := Heap.update _ a (Obj.mapFields (·.setIfInBounds 1 (Value.ref h₁.objs.size)))) (by rw [ea2]; exact True.intro) (.inl rfl)
    (fun b u n q => (Heap.get?_update_other _ _ (Ne.symm n)).trans q) ⟨_, g⟩ (XR.mk (vs := vs.setIfInBounds 1 (Value.ref h₁.objs.size)) g (by simp [hz, trV]) (by rw [Array.size_setIfInBounds]; exact h6) (fun q => by rw [Array.getElem?_setIfInBounds_ne (by decide)]; exact h2 q))
  refine h _ _ h₁.objs.size I3 (fun b o n e => ?_) upd_same ?_ (Ne.symm ne)
  · rw [upd_ne n, upd_ne (ne_of_none e hn)]
    exact e
  · rw [upd_ne (Ne.symm ne), upd_same]
/-- the frame is noted in the error's trace -/
theorem note_ok {Q : Unit → Shared → Prop} (I : Inv X pins σ H s) (hfr : A.frames = some X.stack) (hst : X.stack = X.env :: X.outer) (hf : X.env.frame = some X.env.locals) (ea : H a = some (XR a C od oT)) (eT : TrOk H a oT)
    (h : ∀ s' H' T, Inv X pins σ H' s' → Xt a H H' → H' a = some (XR a C od (some T)) → H' T = some (XT T) → T ≠ a → Q () s') : wpAny M A (noteFrame (.ref a) X.env) Q E s := by
  obtain ⟨vs, ho, h1, _⟩ := XR.get (I.hok a _ ea)
  unfold noteFrame
  simp only [hf]
  refine wpAny_bind (wpAny_field ho rfl h1 ?_)
  cases oT with
  | none =>
    rw [if_neg (by decide)]
    exact entry_ok I hfr hst hf ea h
  | some T =>
    obtain ⟨et, ne⟩ := eT T rfl
    obtain ⟨o, ts, hT, hd, hz⟩ := XT.get (I.hok T _ et)
    rw [if_pos (show (trV (some T) != Value.none) = true by simp [trV])]
    refine wpAny_bind (wpAny_field hT hd (Array.getElem?_eq_getElem hz) ?_)
    by_cases q : (ts[3] == rawInt X.env.locals) = true
    · rw [if_pos q]
      exact wpAny_pure (h s H T I (.refl a H) ea et ne)
    · rw [if_neg q]
      refine wpAny_bind (wpAny_setField hT hd hz ?_)
      exact entry_ok (I.trw et hT hd hz) hfr hst hf ea h
/-- where it flies -/
theorem flight_ok {fl : Option Addr} {Q : Unit → Shared → Prop} (I : Inv X pins σ H s) (ea : H a = some (XR a C od oT)) (eT : TrOk H a oT) (h : ∀ s', Inv X pins σ H s' → Q () s') : wpAny M A (setFlight (.ref a) fl) Q E s := by
  obtain ⟨vs, ho, h1, _⟩ := XR.get (I.hok a _ ea)
  unfold setFlight
  refine wpAny_bind (wpAny_field ho rfl h1 ?_)
  cases oT with
  | none =>
    rw [if_neg (by decide)]
    exact wpAny_pure (h s I)
  | some T =>
    obtain ⟨et, ne⟩ := eT T rfl
    obtain ⟨o, ts, hT, hd, hz⟩ := XT.get (I.hok T _ et)
    rw [if_pos (show (trV (some T) != Value.none) = true by simp [trV])]
    exact wpAny_setField hT hd hz (h _ (I.trw et hT hd hz))
end
/-- how an own error lies behind a call -/
def CXF (P : Program) (w : World) : CXT := fun outer H s E e s' => ∃ a C od oT H', e = .ref a ∧ s'.os = s.os ∧ AllBare s'.gens ∧ Un (frs outer) [] H H' s.heap s'.heap ∧ HOk P w H' s'.heap ∧ H' a = some (XR a C od oT) ∧ TrOk H' a oT ∧ EAll E a C od H'
/-- from a state with the names σ an error of which E is wanted may leave -/
def LetsAt (X : Cx) (σ : St) (E : XK) : Prop := ∀ (pins : List (Addr × Obj)) (H : Hp) (s : Shared) (a C : Addr) (od : Od) (oT : Option Addr), Inv X pins σ H s → H a = some (XR a C od oT) → TrOk H a oT → EAll E a C od H → X.xe (.ref a) s
def PassesAt (CX : CXT) (X : Cx) (σ : St) (E : XK) : Prop := ∀ (pins : List (Addr × Obj)) (H : Hp) (s : Shared) (e : Value) (s' : Shared), Inv X pins σ H s → CX X.stack H s E e s' → X.xe e s'
theorem LetsAt.passes {X : Cx} {σ : St} {E : XK} (l : LetsAt X σ E) : PassesAt (CXF X.prog X.w) X σ E := fun pins H s e s' I ⟨a, C, od, oT, H', e1, os, bare, un, hok, ea, eT, eE⟩ => by
  subst e1
  exact l pins H' s' a C od oT (I.call' (ch := []) os un hok bare fun b z => nomatch z) ea eT eE
theorem TrOk.one {H : Hp} {a T : Addr} (e : H T = some (XT T)) (n : T ≠ a) : TrOk H a (some T) := fun T' q => by
  cases q
  exact ⟨e, n⟩
/-- a def's body -/
theorem lets_body {P : Program} {w : World} {K : Frag} {mg : Str → Option Value} {base : Heap} {N : List Str} {qual : Str} {scope : Scope} {f : Addr} {cd : Value} {A : Around} {outer : List Env} {s : Shared} {H : Hp} {E : XK} (σ : St) :
    LetsAt (cxOf (CXF P w) P w K mg base N qual scope f cd A outer s H E) σ E := fun pins H1 s1 a C od oT I ea eT eE => by
  show wpAny _ _ (leaving _ _) _ _ _
  unfold leaving
  refine wpAny_bind (note_ok I I.ok.frames rfl rfl ea eT fun s2 H2 T I2 x e1 e2 ne => ?_)
  exact flight_ok I2 e1 (.one e2 ne) fun s3 I3 => ⟨a, C, od, some T, H2, rfl, I3.os, I3.bare, I3.base, I3.hok, e1, .one e2 ne, eE.on x⟩
theorem Fun.okX {P : Program} {w : World} {K : Frag} {mg : Str → Option Value} {base : Heap} {x qual : Str} {st : Stmt} {f : Addr} {fd : FuncData} {N ps : List Str} {k : Nat} {sp : Sp} (F : Fun K x qual st f fd) (S : FnScope N ps (defScope st))
    (len : ∀ vs H Q E, sp vs H Q E → vs.length = ps.length)
    (hbody : ∀ (cdv : Value) (A : Around) (outer : List Env) (s : Shared) (H : Hp) (vs : List V) (Q : VK) (E : XK), Room k (A.deeper (envOfC qual (defScope st) s.heap.objs.size f cdv)) → sp vs H Q E →
      ∃ t, PSs (cxOf (CXF P w) P w K mg base N qual (defScope st) f cdv A outer s H E) (defBody st) t ∧ t { nx := fun _ H' => Q .non H', rt := Q } (start N vs) H) : FnOk P w K mg base (CXF P w) (k + 1) f fd ps sp := by
  obtain ⟨oc, od, kV, doc, pm, an, cdv, ct, osl, rfl, lk, hcd⟩ := F.ex
  exact fn_of lk hcd S len fun A outer s H vs Q E hr hsp => hbody cdv A outer s H vs Q E hr hsp
end L2

set_option Elab.async false
set_option linter.all false
set_option maxRecDepth 100000
namespace L2
open PySem PySem.Spec PySem.Calls PySem.W PyProof.Rows
/-- what may leave, at which names -/
abbrev LOT := St → XK → Prop
def tCallE (LO : LOT) (sp : Sp) (t : TA) : TE := fun σ H Q => t σ H fun vs H1 => ∃ E, LO σ E ∧ sp vs H1 Q E
def tMethE (LO : LOT) (C : Addr) (m : Str) (sp : Sp) (ta : TE) (t : TA) : TE := fun σ H Q => ta σ H fun x H1 => ∃ a dx fs, x = .ref a ∧ H1 a = some (.ins C dx fs) ∧ fs.lookup m = none ∧ t σ H1 fun vs H2 => ∃ E, LO σ E ∧ sp (x :: vs) H2 Q E
def tMakeE (LO : LOT) (C : Addr) (sp : Sp) (t : TA) : TE := fun σ H Q => t σ H fun vs H1 => ∃ E, LO σ E ∧ ∀ x dx, H1 x = none → H1 dx = none → dx ≠ x →
  sp (.ref x :: vs) (upd (upd H1 dx (.own x)) x (.ins C dx [])) (fun v H2 => v = .non ∧ Q (.ref x) H2) E
/-- a def of the text by its name, that may raise -/
structure CalR (P : Program) (w : World) (K : Frag) (mg : Str → Option Value) (base : Heap) (k : Nat) (x : Str) (ps : List Str) (sp : Sp) : Prop where
  ex : ∃ f fd, FnOk P w K mg base (CXF P w) k f fd ps sp ∧ mg x = some (.ref f) ∧ keepIn K (.ref f) = true ∧ Binds K fd ps []
/-- a method of an own class -/
structure MetF (P : Program) (w : World) (K : Frag) (mg : Str → Option Value) (base : Heap) (CX : CXT) (k : Nat) (C : Addr) (m : Str) (ps : List Str) (sp : Sp) : Prop where
  ex : ∃ f fd, FnOk P w K mg base CX k f fd ps sp ∧ Meth K C m f ∧ Binds K fd ps []
  cls : Cls K C
/-- an own class that is made by its name -/
structure CalM (P : Program) (w : World) (K : Frag) (mg : Str → Option Value) (base : Heap) (CX : CXT) (k : Nat) (x : Str) (C : Addr) (ps : List Str) (sp : Sp) : Prop where
  ex : ∃ f fd, FnOk P w K mg base CX k f fd ps sp ∧ Mk K C f ∧ Binds K fd ps []
  nm : mg x = some (.ref C)
section
variable {X : Cx} {k j : Nat} {f C : Addr} {fd : FuncData} {ps : List Str} {sp : Sp} {LO : LOT} {x m : Str} {p pos apos : Pos} {e o : Expr} {es : List Expr} {ta : TE} {t : TA}
theorem run_fnE {CX : CXT} {pins : List (Addr × Obj)} {σ : St} {H : Hp} {s : Shared} {Q : VK} {E : XK} {us : List Value} {vs : List V} (F : FnOk X.prog X.w X.K X.mg X.base CX k f fd ps sp) (hr : Room k X.A) (hb : Binds X.K fd ps []) (hx : PassesAt CX X σ E)
    (I : Inv X pins σ H s) (r : Vals vs us) (h : sp vs H Q E) : wpAny (model X.prog X.w) X.A (call (.ref f) us) (EP X pins σ Q) X.xe s := by
  have hl : us.length = ps.length := by rw [← r.length]; exact F.len _ _ _ _ h
  have hbd : BindsTo s fd ⟨us, []⟩ (ps.zip us) := by
    have q := hb s us I.kIn (by rw [List.append_nil]; exact hl)
    rwa [List.append_nil] at q
  refine wpAny_call (codeAny_mono (F.run X.A X.stack s H ⟨us, []⟩ us vs Q E hr I.env0 hbd r h) fun r s' hq => ?_)
  cases r with
  | error e => exact hx pins H s e s' I hq
  | ok fl => cases fl with
    | ret u => exact I.after hq
    | next => exact False.elim hq
    | brk => exact False.elim hq
    | cont => exact False.elim hq
theorem pe_funE (F : CalR X.prog X.w X.K X.mg X.base k x ps sp) (hr : Room j X.A) (hL : ∀ σ E, LO σ E → LetsAt X σ E) (ha : PA X (e :: es) t) (hg : Gl X x := by rfl) (hjk : k ≤ j := by decide) (hdb : (x == ("__debug__" : Str)) = false := by decide)
    (he : starEach (e :: es) X.env = (false, eval e X.env) :: starEach es X.env := by rfl) (hpl : (backTo pos (starEach es X.env)).any (·.1) = false := by rfl) : PE X (.Call (.Name x p) (e :: es) [] pos) (tCallE LO sp t) := by
  obtain ⟨f, fd, F, hm, hk, hb⟩ := F.ex
  intro pins s σ H Q I h
  refine wpAny_Call_Name_kw (ld_glob I hg hm ?_ hdb)
  refine callWith_K (h₀ := X.base) I.ok.mod.kin hk (thn (ha pos pins s σ H _ I h) fun us s1 ⟨vs, H1, I1, r, E, lo, q⟩ => ⟨I1.kIn, ?_⟩) he hpl
  exact run_fnE F (hr.mono hjk) hb (hL σ E lo).passes I1 r q
end
/-! ### raise -/
def tRaise (K : Frag) (LO : LOT) (te : TE) : TS := fun _ σ H => te σ H fun x H1 => ∃ a C od E, x = .ref a ∧ H1 a = some (XO a C od) ∧ XCls K C ∧ LO σ E ∧ EAll E a C od H1
theorem XCls.atB {K : Frag} {C : Addr} {h : Heap} (x : XCls K C) (X : K.In h) : ∃ bm, ExcCls h C bm ∧ bm.contains (.type "BaseException") = true := by
  obtain ⟨bm, Y⟩ := x.at X
  refine ⟨bm, Y, ?_⟩
  obtain ⟨o, lk, ok⟩ := x.lk
  unfold excObjOk at ok
  split at ok
  · rename_i dd cd sl
    split at ok
    · rename_i C' bm' k0 k1 k2 k3 n k5 hm hs
      simp only [Bool.and_eq_true, beq_iff_eq, Bool.not_eq_true'] at ok
      obtain ⟨nm, q, N, bs, hdct, sn, sub, ab, col, dd', k0, k1, k2, k3, k5, hC⟩ := Y.obj
      rw [X _ _ lk] at hC
      have e := congrArg Obj.data (Option.some.inj hC)
      have e2 : cd.mro = .ref C :: bm := by
        injection e with e
        rw [e]
      rw [hm] at e2
      injection e2 with _ e3
      rw [← e3]
      exact exc_has (by decide +kernel) ok.2
    · cases ok
  · cases ok
section
variable {X : Cx} {LO : LOT} {e : Expr} {te : TE} {pos : Pos} {j : Nat}
theorem ps_raise (he : PE X e te) (hr : Room j X.A) (hL : ∀ σ E, LO σ E → LetsAt X σ E) : PS X (.Raise (some e) none pos) (tRaise X.K LO te) := by
  intro pins s σ H D I h
  rw [arm_exec_Raise]
  refine wpAny_bind (wpAny_standAt ?_)
  show wpAny _ _ (raiseStmt X.env (some (do let v ← eval e X.env; standAt pos; pure v)) none) _ _ _
  unfold raiseStmt
  refine wpAny_bind (wpAny_bind (thn (he pins s σ H _ I h) fun v s1 ⟨x, H1, I1, rx, a, C, od, E, ex, ea, c, lo, eE⟩ => wpAny_bind (wpAny_standAt (wpAny_pure ?_))))
  subst ex
  obtain rfl : v = Value.ref a := rx
  obtain ⟨t, ho⟩ := XO.get (I1.hok a _ ea)
  obtain ⟨bm, ⟨⟨nm, q, N, bs, hdct, sn, sub, ab, col, dd, k0, k1, k2, k3, k5, hC⟩, hV, hA, hN⟩, hbase⟩ := c.atB I1.kIn
  have hcB : (Value.ref C :: bm).contains (.type "BaseException") = true := by rw [List.contains_cons, hbase, Bool.or_true]
  have I2 := I1.write (x := a) (e := a) (o := XR a C od none) (h' := s1.heap) (t' := s1.toks) (by rw [ea]; exact True.intro) (.inl rfl) (fun b u _ z => z) ⟨_, ho⟩ (XR.mk (od := (od : Od)) ho rfl rfl fun _ => rfl)
  have hE : X.xe (.ref a) s1 := hL σ E lo pins _ s1 a C od none I2 upd_same (fun T z => nomatch z) fun H' oT x e => eE H' oT (Xt.upd.trans x) e
  obtain ⟨hp, g, d, tk, os⟩ := s1
  repeat (first | with_reducible refine wpAny_loadPart_at ho ?_ | with_reducible refine wpAny_loadPart_at hC ?_ | (with_reducible refine wpAny_isSubtype_exc hC ?_; rw [hcB]) | wp_step)
  exact wpAny_raiseNew_none hr.hd hE
end
end L2

set_option Elab.async false
set_option linter.all false
set_option maxRecDepth 100000
namespace L2
open PySem PySem.Spec PySem.Calls PySem.W PyProof.Rows
section
variable {X : Cx} {pins : List (Addr × Obj)} {σ : St} {H : Hp} {s : Shared} {M : Model} {A : Around} {E : Value → Shared → Prop}
/-- a name goes -/
theorem unset_ok {i : Nat} {n : Str} {pos : Pos} {Q : Unit → Shared → Prop} (I : Inv X pins σ H s) (hN : X.N.Nodup) (hi : X.N[i]? = some n) (hk : X.env.scope.names.lookup n = some .local) (h : ∀ s', Inv X pins (σ.set i none) H s' → Q () s') :
    wpAny M A (do bindName X.env n .none; unbindBehindTheSuite X.env n pos) Q E s := by
  refine wpAny_bind (wpAny_bindName (store_ok (v := .non) I hN hi (Or.inl hk) rfl (fun s1 I1 => ?_) (Or.inr hk)))
  have hcls : (X.env.scope.kind == .class || (X.env.scope.kind == .module && X.env.locals != X.env.globals)) = false := by rw [I.ok.kind]; rfl
  have hl : X.env.kindOf n = some .local := hk
  obtain ⟨m, hn, hm⟩ := id I1.loc
  have hiσ : i < σ.length := by rw [I.len]; exact (List.getElem?_eq_some_iff.mp hi).1
  have hmn : (m n).isSome = true := by
    obtain ⟨u, _, q⟩ := hm i n .non hi (by rw [List.getElem?_set_self hiσ]) (Or.inl hk)
    rcases q with ⟨_, q⟩ | ⟨q, _⟩
    · rw [q]; rfl
    · rcases q with q | q <;> (rw [hl] at q; cases q)
  unfold unbindBehindTheSuite
  refine wpAny_onRaise ?_
  unfold unbindName
  refine wpAny_bind (wpAny_point (wpAny_bind ?_))
  unfold deleteName
  simp only [hl, hcls]
  rw [if_neg (by decide)]
  refine wpAny_bind (wpAny_nsDel_keeps hn fun h' v hn' hs => ?_)
  simp only [if_true, hmn, Bool.not_true, Bool.false_eq_true, if_false]
  refine wpAny_pure (wpAny_point (h _ ?_))
  have cne := I1.cne
  obtain ⟨oL, _, _, hoL, _⟩ := id hn
  have tracked : HOk X.prog X.w H h' := fun b ob e => by
    refine (I1.hok b ob e).stay (fun c w' hc q => (hs.2 c ?_).trans q) (fun _ q => q) fun _ _ _ q => q
    rintro rfl
    rcases hc with rfl | hc
    · rw [I1.free] at e; cases e
    · rw [I1.free] at hc; cases hc
  have ab : ∀ b o, X.s_0.heap.get? b = some o → b ≠ X.env.locals := fun b o e => Nat.ne_of_lt (Nat.lt_of_lt_of_le (Heap.lt_size e) I.ok.above)
  refine ⟨I1.ok, I1.os, I1.bare, ⟨fun b o e n hb hx => (hs.2 b (ab b o e)).trans (I1.base.keep b o e n hb hx), fun b o e n hb hx => ?_, I1.base.free, fun b o e hx => ?_, I1.base.tups, I1.base.frzs, I1.base.tbls⟩, ⟨_, hn', fun j y v' e1 e2 e3 => ?_⟩, fun y c e => ?_, I1.free, I1.freeC, fun p hp => ?_, tracked, by simpa using I.len⟩
  · obtain ⟨sl, e1⟩ := I1.base.slot b o e n hb hx
    exact ⟨sl, (hs.2 b (ab b o e)).trans e1⟩
  · obtain ⟨o', e1⟩ := I1.base.there b o e hx
    exact ⟨o', (hs.2 b (ab b o e)).trans e1⟩
  · have hj : j ≠ i := fun z => by
      subst z
      rw [List.getElem?_set_self hiσ] at e2
      cases e2
    rw [List.getElem?_set_ne (Ne.symm hj)] at e2
    obtain ⟨u', r', q⟩ := hm j y v' e1 (by rw [List.getElem?_set_ne (Ne.symm hj)]; exact e2) e3
    refine ⟨u', r', ?_⟩
    rcases q with ⟨k, e⟩ | ⟨k, c, e, z⟩
    · have : y ≠ n := fun e => hj (nodup_ix hN e1 (e ▸ hi))
      exact .inl ⟨k, (if_neg this).trans e⟩
    · exact .inr ⟨k, c, e, z.sameBut hs (cne y c e)⟩
  · obtain ⟨w', z⟩ := I1.cell y c e
    exact ⟨w', z.sameBut hs (cne y c e)⟩
  · obtain ⟨e, n, ne, nf, d⟩ := I1.pin p hp
    exact ⟨(hs.2 p.1 ne).trans e, n, ne, nf, d⟩
end
/-! ### the clauses of a try -/
/-- a clause's reading: the error at a, of the class at C -/
abbrev TH := Addr → Addr → TS
def PH (X : Cx) (hs : List ExceptHandler) (t : TH) : Prop := ∀ (pins : List (Addr × Obj)) (s : Shared) (σ : St) (H : Hp) (D : Ends) (a C : Addr) (od : Od) (T : Addr), Inv X pins σ H s → H a = some (XR a C od (some T)) → H T = some (XT T) → T ≠ a → t a C D σ H →
  wpAny (model X.prog X.w) X.A (handleBy (.ref a) X.env hs) (SP X pins D) X.xe s
/-- within a suite nothing is raised -/
abbrev Cx.inH (X : Cx) (a : Addr) : Cx := { X with A := X.A.mark (some (.ref a)), calm := false, xe := fun _ _ => False }
def Ends.unset (D : Ends) (i : Nat) : Ends := ⟨fun σ H => D.nx (σ.set i none) H, D.rt, fun σ H => D.bk (σ.set i none) H, fun σ H => D.ct (σ.set i none) H⟩
def tHAs (K : Frag) (i : Nat) (C0 : Addr) (ts : TS) (tr : TH) : TH := fun a C D σ H => XCls K C ∧ ∃ b, mroIn K C (.ref C0) = some b ∧ if b = true then ts (D.unset i) (σ.set i (some (.ref a))) H else tr a C D σ H
def tHNo (K : Frag) (C0 : Addr) (ts : TS) (tr : TH) : TH := fun a C D σ H => XCls K C ∧ ∃ b, mroIn K C (.ref C0) = some b ∧ if b = true then ts D σ H else tr a C D σ H
def tHNever : TH := fun _ _ _ _ _ => False
theorem ph_never {X : Cx} {hs : List ExceptHandler} : PH X hs tHNever := fun _ _ _ _ _ _ _ _ _ _ _ _ _ h => h.elim
section
variable {X : Cx} {pins : List (Addr × Obj)} {σ : St} {H : Hp} {s : Shared}
theorem Inv.toH (I : Inv X pins σ H s) (a : Addr) : Inv (X.inH a) pins σ H s := ⟨⟨I.ok.mod, I.ok.kind, I.ok.glob, I.ok.blt, I.ok.above, I.ok.inj, I.ok.has, I.ok.cab, (fun z => nomatch z), I.ok.frames, I.ok.stk, I.ok.exf, I.ok.bs, I.ok.bsz, I.ok.noex, I.ok.exfs, I.ok.funs, I.ok.frf⟩,
  I.os, I.bare, I.base, I.loc, I.cell, I.free, I.freeC, I.pin, I.hok, I.len⟩
theorem Inv.ofH {a : Addr} {pins' : List (Addr × Obj)} {σ' : St} {H' : Hp} {s' : Shared} (I : Inv X pins' σ' H' s') (J : Inv (X.inH a) pins σ H s) : Inv X pins σ H s := ⟨I.ok, J.os, J.bare, J.base, J.loc, J.cell, J.free, J.freeC, J.pin, J.hok, J.len⟩
theorem exc_match {M : Model} {A : Around} {E : Value → Shared → Prop} {K : Frag} {h : Heap} {g : Array GenState} {d : Drawn} {t : Nat} {os : OsState} {e C C0 : Addr} {oe : Obj} {b : Bool} {Q : Bool → Shared → Prop} (X : K.In h) (c0 : XCls K C0) (he : h.get? e = some oe) (hcls : oe.cls = .ref C)
    (hb : mroIn K C (.ref C0) = some b) (hq : Q b ⟨h, g, d, t, os⟩) : wpAny M A (excMatches (.ref e) (.ref C0)) Q E ⟨h, g, d, t, os⟩ := by
  obtain ⟨bm, ⟨⟨nm, q, N, bs, hdct, sn, sub, ab, col, dd, k0, k1, k2, k3, k5, hC⟩, hV, hA, hN⟩, hbase⟩ := c0.atB X
  have hcB : (Value.ref C0 :: bm).contains (.type "BaseException") = true := by rw [List.contains_cons, hbase, Bool.or_true]
  have f := tc_notTuple
  have L := looks_mroIn (M := M) X hb
  unfold excMatches
  repeat (first | (with_reducible refine wpAny_loadPart_at he ?_; rw [hcls]) | with_reducible refine wpAny_loadPart_at hC ?_ | with_reducible refine L.at ?_ | (with_reducible refine wpAny_isSubtype_exc hC ?_; rw [hcB]) | wp_step)
  cases b <;> (wp_walk; exact hq)
end
section
variable {X : Cx} {x n : Str} {np pos : Pos} {i : Nat} {b0 : Stmt} {suite : List Stmt} {rest : List ExceptHandler} {C0 : Addr} {ts : TS} {tr : TH}
theorem ph_as (hm : X.mg x = some (.ref C0)) (c0 : XCls X.K C0) (nd : X.N.Nodup) (hi : X.N[i]? = some n) (hk : X.env.scope.names.lookup n = some .local) (hs : ∀ a, PSs (X.inH a) (b0 :: suite) ts) (hr : PH X rest tr) (hg : Gl X x := by rfl)
    (hdb : (x == ("__debug__" : Str)) = false := by decide) : PH X (.ExceptHandler (some (.Name x np)) (some n) (b0 :: suite) pos :: rest) (tHAs X.K i C0 ts tr) := by
  intro pins s σ H D a C od T I ea eT ne h
  obtain ⟨c, b, hb, h⟩ := h
  have I0 := I.toH a
  refine wpAny_handleBy_cons (codeAny_handlers_test ?_) (by intro q; cases q)
  refine ld_glob (X := X.inH a) I0 hg hm ?_ hdb
  obtain ⟨vs, ho, _⟩ := XR.get (I.hok a _ ea)
  obtain ⟨hp, g, d, tk, os⟩ := s
  refine exc_match I.kIn c0 ho rfl hb ?_
  cases b with
  | false => exact hr pins _ σ H D a C od T I ea eT ne (by simpa using h)
  | true =>
    rw [if_pos rfl] at h
    show codeAny _ _ _ _ _
    refine codeAny_handlers_suite_as ?_
    refine flight_ok I0 ea (.one eT ne) fun s1 I1 => ?_
    refine store_ok (X := X.inH a) I1 nd hi (Or.inl hk) (show RelV (.ref a) (Value.ref a) from rfl) (fun s2 I2 => ?_) (Or.inr hk)
    refine wpAny_mono (hs a pins s2 _ H _ I2 h) (fun f s3 q => ?_) (fun _ _ z => False.elim z)
    cases f with
    | next =>
      obtain ⟨σ', H', J, q⟩ := q
      exact unset_ok (I.ofH J) nd hi hk fun s4 I4 => ⟨_, H', I4, q⟩
    | brk =>
      obtain ⟨σ', H', J, q⟩ := q
      exact unset_ok (I.ofH J) nd hi hk fun s4 I4 => ⟨_, H', I4, q⟩
    | cont =>
      obtain ⟨σ', H', J, q⟩ := q
      exact unset_ok (I.ofH J) nd hi hk fun s4 I4 => ⟨_, H', I4, q⟩
    | ret u =>
      obtain ⟨v, σ', H', J, r, q⟩ := q
      exact unset_ok (I.ofH J) nd hi hk fun s4 I4 => ⟨v, _, H', I4, r, q⟩
end
/-! ### try -/
def Eh (th : TH) (D : Ends) (σ : St) : XK := fun e oc H => ∃ a C, e = .ref a ∧ oc = some C ∧ th a C D σ H
def tTry (tb : LOT → TS) (th : TH) : TS := fun D σ H => tb (fun σ' E => E = Eh th D σ') D σ H
theorem ps_try {X : Cx} {body : List Stmt} {h0 : ExceptHandler} {hs : List ExceptHandler} {pos : Pos} {tb : LOT → TS} {th : TH} (hst : X.stack = X.env :: X.outer) (hf : X.env.frame = some X.env.locals)
    (hb : ∀ (pn : List (Addr × Obj)) (xe : Value → Shared → Prop) (LO : LOT), (∀ σ E, LO σ E → LetsAt { X with pn := pn, xe := xe } σ E) → PSs { X with pn := pn, xe := xe } body (tb LO)) (hh : PH X (h0 :: hs) th) :
    PS X (.Try body (h0 :: hs) [] [] pos) (tTry tb th) := by
  intro pins s σ H D I h
  refine wpAny_Try_except ?_
  have ok' : ∀ (pn : List (Addr × Obj)) (xe : Value → Shared → Prop), Cx.Ok { X with pn := pn, xe := xe } := fun pn xe =>
    ⟨I.ok.mod, I.ok.kind, I.ok.glob, I.ok.blt, I.ok.above, I.ok.inj, I.ok.has, I.ok.cab, I.ok.hd, I.ok.frames, I.ok.stk, I.ok.exf, I.ok.bs, I.ok.bsz, I.ok.noex, I.ok.exfs, I.ok.funs, I.ok.frf⟩
  have back : ∀ {xe : Value → Shared → Prop} {p1 : List (Addr × Obj)} {σ1 : St} {H1 : Hp} {s1 : Shared}, Inv { X with pn := X.pn ++ pins, xe := xe } p1 σ1 H1 s1 → Inv X pins σ1 H1 s1 := fun J =>
    ⟨I.ok, J.os, J.bare, J.base, J.loc, J.cell, J.free, J.freeC, fun p hp => J.pin p (List.mem_append_left _ hp), J.hok, J.len⟩
  generalize hxe : (fun (e : Value) (s₁ : Shared) => wpAny (model X.prog X.w) X.A (noteFrame e X.env) (fun _ s₂ => wpAny (model X.prog X.w) X.A (setFlight e none) (fun _ s₃ => wpAny (model X.prog X.w) X.A (handleBy e X.env (h0 :: hs)) (SP X pins D) X.xe s₃) X.xe s₂) X.xe s₁) = xe
  have L : ∀ σ1 E1, E1 = Eh th D σ1 → LetsAt { X with pn := X.pn ++ pins, xe := xe } σ1 E1 := fun σ1 E1 q pins1 H1 s1 a C od oT I1 ea eT eE => by
    subst q
    show xe (.ref a) s1
    rw [← hxe]
    have I1' := back I1
    refine note_ok I1' I.ok.frames hst hf ea eT fun s2 H2 T I2 x e1 e2 ne => ?_
    refine flight_ok I2 e1 (.one e2 ne) fun s3 I3 => ?_
    obtain ⟨a', C', q1, q2, q⟩ := eE H2 (some T) x e1
    cases q1
    cases q2
    exact hh pins s3 σ1 H2 D a C od T I3 e1 e2 ne q
  have I' : Inv { X with pn := X.pn ++ pins, xe := xe } [] σ H s := ⟨ok' _ _, I.os, I.bare, I.base, I.loc, I.cell, I.free, I.freeC, fun p hp => I.pin p (by rw [List.append_nil] at hp; exact hp), I.hok, I.len⟩
  refine wpAny_mono (hb (X.pn ++ pins) xe _ L [] s σ H D I' h) (fun f s1 q => ?_) fun e s1 z => ?_
  · cases f with
    | next =>
      obtain ⟨σ', H', J, q⟩ := q
      exact wpAny_execs_nil ⟨σ', H', back J, q⟩
    | brk =>
      obtain ⟨σ', H', J, q⟩ := q
      exact ⟨σ', H', back J, q⟩
    | cont =>
      obtain ⟨σ', H', J, q⟩ := q
      exact ⟨σ', H', back J, q⟩
    | ret u =>
      obtain ⟨v, σ', H', J, r, q⟩ := q
      exact ⟨v, σ', H', back J, r, q⟩
  · exact z
/-! ### a caught error is read -/
section
variable {X : Cx} {pins : List (Addr × Obj)} {σ : St} {H : Hp} {s : Shared} {A : Around} {E : Value → Shared → Prop} {a C : Addr} {f : Str} {oT : Option Addr}
theorem rget_ok {v : V} {d : Addr} {cx : Bool} {fs : List (Str × V)} {expr : Bool} {Q : Value → Shared → Prop} (I : Inv X pins σ H s) (e : H a = some (XR a C ⟨some d, cx⟩ oT)) (ed : H d = some (XD d fs)) (c : XCls X.K C) (n : NoAttr X.K C f) (l : fs.lookup f = some v)
    (h : ∀ u s', Inv X pins σ H s' → RelV v u → Q u s') : wpAny (model X.prog X.w) A (getAttr (.ref a) f expr) Q E s := by
  obtain ⟨vs, ho, _⟩ := XR.get (I.hok a _ e)
  obtain ⟨_, mA, hn, r, wi⟩ := XD.get (I.hok d _ ed)
  obtain ⟨od, hod, hl⟩ := lookIn_ns hn
  obtain ⟨u, hu, ru⟩ : ∃ u, mA f = some u ∧ RelV v u := by
    have q := r f
    rw [l] at q
    cases z : mA f with
    | none => rw [z] at q; exact q.elim
    | some u => rw [z] at q; exact ⟨u, rfl, q⟩
  have J : InstAt s.heap a { cls := .ref C, dict := some d, data := .fields vs } C (some od) := ⟨ho, rfl, rfl, hod⟩
  exact get_exc I.kIn J c.ga c.gn c.mb (findObj_own c.hd n rfl (by rw [hl, hu])) (handed_of ru) (h u _ (I.tok _) ru)
end
/-- e.f of a caught error -/
def tRFld (K : Frag) (ta : TE) (f : Str) : TE := fun σ H Q => ta σ H fun x H1 => ∃ a C d oT fs v, x = .ref a ∧ H1 a = some (XR a C (some d) oT) ∧ H1 d = some (XD d fs) ∧ XCls K C ∧ NoAttr K C f ∧ fs.lookup f = some v ∧ Q v H1
theorem pe_rfld {X : Cx} {e : Expr} {f : Str} {pos : Pos} {ta : TE} (he : PE X e ta) (hb : attributeBase e f X.env (eval e X.env) = eval e X.env) : PE X (.Attribute e f pos) (tRFld X.K ta f) := by
  intro pins s σ H Q I h
  refine attr_of hb (thn (he pins s σ H _ I h) fun u s1 ⟨x, H1, I1, rx, a, C, d, oT, fs, v, ex, ea, ed, c, n, l, q⟩ => ?_)
  subst ex
  obtain rfl : u = Value.ref a := rx
  exact rget_ok I1 ea ed c n l fun u' s2 I2 ru => ⟨v, H1, I2, ru, q⟩
theorem XR.inst {X : Cx} {pins : List (Addr × Obj)} {σ : St} {H : Hp} {s : Shared} {a C : Addr} {od : Od} {oT : Option Addr} {fs : List (Str × V)} (I : Inv X pins σ H s) (e : H a = some (XR a C od oT)) (ed : ∀ d, od.d = some d → H d = some (XD d fs)) : ∃ ox oo, InstAt s.heap a ox C oo := by
  obtain ⟨vs, ho, _⟩ := XR.get (I.hok a _ e)
  obtain ⟨od, cx⟩ := od
  cases od with
  | none => exact ⟨_, none, ho, rfl, rfl, trivial⟩
  | some d =>
    obtain ⟨_, mA, hn, _, _⟩ := XD.get (I.hok d _ (ed d rfl))
    obtain ⟨oo, _, _, h1, _⟩ := hn
    exact ⟨_, some oo, ho, rfl, rfl, h1⟩
/-- isinstance(e, D) of a caught error, D a class -/
theorem call_isr {X : Cx} {K : Frag} (hK : X.K = K) : CallR X (.builtin "isinstance") (fun xs H Q => ∃ a C, ∃ od : Od, ∃ oT fs D b, xs = [.ref a, .ref D] ∧ H a = some (XR a C od oT) ∧ (∀ d, od.d = some d → H d = some (XD d fs)) ∧ XCls K C ∧ kitOne K (.ref C) (.ref D) = some b ∧ Q (.bl b) H) := by
  subst hK
  intro pins s σ H xs us Q I r h
  obtain ⟨a, C, od, oT, fs, D, b, rfl, ea, ed, xc, e, q⟩ := h
  obtain ⟨u, v, rfl, ru, rv⟩ := vals2 r
  cases ru
  cases rv
  exact kia_one (kitx_exc xc) I.kIn (XR.inst I ea ed) e (fun z => nomatch z) fun tk => ⟨.bl b, H, I.tok tk, rfl, q⟩
end L2

set_option Elab.async false
set_option linter.all false
set_option maxRecDepth 100000
/-! More rules: isinstance with a tuple of types, == and in of a text and any thing, enumerate of a tuple, a slice with a step. -/
namespace L2
open PySem PySem.Spec PySem.W PyProof.Rows
open AutoSeq1 (wpAny_loadPart')
/-! ### isinstance(x, (T, U, ..)) -/
theorem kitx_ty {X : Cx} {pins : List (Addr × Obj)} {σ : St} {H : Hp} {s : Shared} {x : V} {u : Value} {T : String} (I : Inv X pins σ H s) (rx : RelV x u) (ty : TyOf X.K H x (.type T)) :
    ∃ Hh : Heap → Prop, KitX X.K u (.type T) Hh ∧ Hh s.heap ∧ u ≠ .builtin "__main__.__loader__#opaque" := by
  cases ty with
  | non => cases (show u = Value.none from rx); exact ⟨_, kitx_none, True.intro, fun z => nomatch z⟩
  | bl y => cases (show u = Value.bool y from rx); exact ⟨_, kitx_bool, True.intro, fun z => nomatch z⟩
  | int i => obtain ⟨t, q⟩ := (show ∃ t, u = Value.int i t from rx); cases q; exact ⟨_, kitx_int, True.intro, fun z => nomatch z⟩
  | str y => obtain ⟨t, q⟩ := (show ∃ t, u = Value.str y t from rx); cases q; exact ⟨_, kitx_str, True.intro, fun z => nomatch z⟩
  | flt y => obtain ⟨t, q⟩ := (show ∃ t, u = Value.float y t from rx); cases q; exact ⟨_, kitx_float, True.intro, fun z => nomatch z⟩
  | @lst a xs ea =>
    cases rx
    obtain ⟨_, _, n, _, h1⟩ := (show ObjOk X.prog X.w H s.heap a (.lst xs) from I.hok a _ ea)
    exact ⟨_, kitx_list, ⟨_, h1, rfl⟩, fun z => nomatch z⟩
  | @frz a ob xs ea =>
    cases rx
    obtain ⟨_, _, _, n, _, h1⟩ := (show ObjOk X.prog X.w H s.heap a (.frz ob (.lst xs)) from I.hok a _ ea)
    exact ⟨_, kitx_list, ⟨_, h1, rfl⟩, fun z => nomatch z⟩
  | @tup a xs ea =>
    cases rx
    obtain ⟨_, _, _, o, h1, h2, _⟩ := (show ObjOk X.prog X.w H s.heap a (.tup xs) from I.hok a _ ea)
    exact ⟨_, kitx_tuple, ⟨o, h1, h2⟩, fun z => nomatch z⟩
  | @dK a kvs ea =>
    cases rx
    obtain ⟨_, _, vs, _, o, es, ep, h1, h2, _⟩ := (show ObjOk X.prog X.w H s.heap a (.dK kvs) from I.hok a _ ea)
    exact ⟨_, kitx_dict, ⟨o, h1, h2.1⟩, fun z => nomatch z⟩
  | @dT a kvs ea =>
    cases rx
    obtain ⟨_, _, xs, _, o, es, ep, h1, h2, _⟩ := (show ObjOk X.prog X.w H s.heap a (.dT kvs) from I.hok a _ ea)
    exact ⟨_, kitx_dict, ⟨o, h1, h2.1⟩, fun z => nomatch z⟩
theorem vals_tys : ∀ {ts : List String} {us : List Value}, Vals (ts.map V.ty) us → us = ts.map Value.type
  | [], _, .nil => rfl
  | t :: ts, _, .cons r q => by
    cases r
    rw [vals_tys q]
    rfl
theorem call_isinstT {X : Cx} {K : Frag} (hK : X.K = K) : CallR X (.builtin "isinstance") (fun xs H Q => ∃ (x : V) (ts : List String) (a : Addr) (T : String) (b : Bool), xs = [x, .ref a] ∧ H a = some (.tup (ts.map V.ty)) ∧ TyOf K H x (.type T) ∧ kitAny K (.type T) (ts.map Value.type) = some b ∧ Q (.bl b) H) := by
  subst hK
  intro pins s σ H xs us Q I r h
  obtain ⟨x, ts, a, T, b, rfl, ha, ty, e, q⟩ := h
  obtain ⟨u, v, rfl, ru, rv⟩ := vals2 r
  cases rv
  obtain ⟨Hh, Z, p, ne⟩ := kitx_ty I ru ty
  obtain ⟨its, rt, o, h1, h2, n, h3⟩ := (show ∃ its : List Value, Vals (ts.map V.ty) its ∧ IsTup s.heap a its.toArray from (I.hok a _ ha).2)
  obtain ⟨c, dd, dt, sl⟩ := o
  cases h2
  cases h3
  rw [vals_tys rt] at h1
  exact kia_tup Z I.kIn p h1 e ne fun tk => ⟨.bl b, H, I.tok tk, rfl, q⟩
/-! ### a text and a dict -/
theorem str_eq_dict (b : Str) (u : Tok) (l : Addr) (o : Obj) {es : Array DictEntry} {ep : Nat} (hd : o.data = .dict es ep) :
    Meets (Builtin.«str.__eq__» ⟨[.str b u, .ref l], []⟩) (fun _ R s => s.heap.get? l = some o ∧ R (.ok (.ret .notImplemented)) s) :=
  .of_wp fun prog w A R s h => by
    obtain ⟨hp, g, d, tk, os⟩ := s
    obtain ⟨c, dd, dt, sl⟩ := o
    cases hd
    obtain ⟨hl, h⟩ := h
    wp_walk using wpAny_loadPart' hl, wpAny_load hl
    exact ⟨_, rfl, h⟩
theorem dict_eq_str (b : Str) (u : Tok) (l : Addr) (o : Obj) {es : Array DictEntry} {ep : Nat} (hd : o.data = .dict es ep) :
    Meets (Builtin.«dict.__eq__» ⟨[.ref l, .str b u], []⟩) (fun _ R s => s.heap.get? l = some o ∧ R (.ok (.ret .notImplemented)) s) :=
  .of_wp fun prog w A R s h => by
    obtain ⟨hp, g, d, tk, os⟩ := s
    obtain ⟨c, dd, dt, sl⟩ := o
    cases hd
    obtain ⟨hl, h⟩ := h
    have f0 := F.sub_str_dict
    wp_walk using wpAny_loadPart' hl, wpAny_load hl
    exact ⟨_, rfl, h⟩

theorem rc_str_dict {A : Around} {s : Shared} {l : Addr} {o : Obj} {es : Array DictEntry} {ep : Nat} (b : Str) (u : Tok) (ho : s.heap.get? l = some o) (hc : o.cls = .type "dict") (hd : o.data = .dict es ep) (hu : A.units < cLine) : SeqAt.RcAt A s (.str b u) (.ref l) false := fun prog w E Q h =>
  SeqAt.rc_eq_decline_or (k := false) (typeIs_str s b u) ⟨o, ho, hc⟩ (by decide) F.sub_dict_str F.slot_str_eq F.slot_dict_eq_refl
    (fun _ hq => call_meets F.slot_str_eq (typeIs_str s b u) F.entry_str_eq (F.args_str_eq_2 _ _) (str_eq_dict b u l o hd) ⟨ho, hq⟩)
    (fun _ hq => call_meets F.slot_dict_eq_refl ⟨o, ho, hc⟩ F.entry_dict_eq (F.args_dict_eq_2 _ _) (dict_eq_str b u l o hd) ⟨ho, hq⟩)
    (fun _ hq => wpAny_of_eq (rfl : isSame (.str b u) (.ref l) = pure false) hq) (.inr hu) h
theorem eq_str_dict {A : Around} {s : Shared} {l : Addr} {o : Obj} {es : Array DictEntry} {ep : Nat} (b : Str) (u : Tok) (ho : s.heap.get? l = some o) (hc : o.cls = .type "dict") (hd : o.data = .dict es ep) (hu : A.units < cLine) : SeqAt.EqAt A s (.str b u) (.ref l) false := fun prog w E Q h => by
  unfold eqBool
  refine wpAny_holding (wpAny_ite_split (fun q => absurd (eq_of_beq q) nofun) fun _ => ?_)
  exact wpAny_bind (rc_str_dict b u ho hc hd hu prog w E _ (wpAny_truthy_bool h))
/-! ### a text and any thing -/
/-- z == x -/
def eqS (z : Str) : V → Bool
  | .str b => z == b
  | _ => false
/-- a thing that == of a text takes: flat, or a list, a tuple, a dict that is held -/
def EqT (K : Frag) (H : Hp) (x : V) : Prop := flatV x = true ∨ ∃ a, x = .ref a ∧ ((∃ xs, H a = some (.lst xs)) ∨ (∃ xs, H a = some (.tup xs)) ∨ ∃ kvs, H a = some (.dK kvs))
theorem eqS_flat {z : Str} {x : V} (h : flatV x = true) : eqV (.str z) x = eqS z x := by
  cases x <;> first | rfl | cases h
section
variable {X : Cx} {pins : List (Addr × Obj)} {σ : St} {H : Hp} {s : Shared} {A : Around} {z : Str} {t : Tok} {x : V} {v : Value}
theorem eqT_at (I : Inv X pins σ H s) (hu : A.units < cLine) (e : EqT X.K H x) (rx : RelV x v) : SeqAt.EqAt A s (.str z t) v (eqS z x) ∧ (flatV x = false → SeqAt.RcAt A s (.str z t) v (eqS z x)) := by
  rcases e with f | ⟨a, rfl, ⟨xs, h⟩ | ⟨xs, h⟩ | ⟨kvs, h⟩⟩
  · refine ⟨?_, fun q => absurd (f.symm.trans q) (by decide)⟩
    rw [← eqS_flat f]
    exact eqAt_V (y := .str z) ⟨t, rfl⟩ rx rfl f
  · cases rx
    obtain ⟨its, r, p, hz⟩ := I.list (SqL.of h)
    exact ⟨SeqAt.EqAt.str_list z t p.isList hu, fun _ => SeqAt.RcAt.str_list z t p.isList hu⟩
  · cases rx
    obtain ⟨its, r, p, hz⟩ := I.tuple (SqT.of h)
    exact ⟨SeqAt.EqAt.str_tuple z t p hu, fun _ => SeqAt.RcAt.str_tuple z t p hu⟩
  · cases rx
    obtain ⟨_, _, vs, _, o, es, ep, h1, h2, h3, _⟩ := (show ObjOk X.prog X.w H s.heap a (.dK kvs) from I.hok a _ h)
    exact ⟨eq_str_dict z t h1 h2.1 h3 hu, fun _ => rc_str_dict z t h1 h2.1 h3 hu⟩
end
def rEqT (K : Frag) : R2 := fun x y H Q => ∃ z, x = .str z ∧ EqT K H y ∧ Q (.bl (eqS z y)) H
/-- x in a list of texts -/
def rInT (K : Frag) : R2 := fun x y H Q => ∃ p, ∃ ss : List Str, y = .ref p ∧ (SqL K H p (ss.map V.str) ∨ SqT K H p (ss.map V.str)) ∧ EqT K H x ∧ Q (.bl (ss.any fun z => eqS z x)) H
theorem vals_txt {f : Str → Bool} : ∀ {ss : List Str} {us : List Value}, Vals (ss.map V.str) us → ∃ g : Value → Bool, (∀ u ∈ us, ∃ z t, u = .str z t ∧ g u = f z) ∧ us.any g = ss.any f := fun {ss us} h => by
  refine ⟨fun u => match u with | .str z _ => f z | _ => false, ?_, ?_⟩
  · induction ss generalizing us with
    | nil => cases h; intro u hu; cases hu
    | cons z ss ih =>
      cases h with
      | cons r q =>
        obtain ⟨t, rfl⟩ := r
        intro u hu
        rcases List.mem_cons.mp hu with rfl | hu
        · exact ⟨z, t, rfl, rfl⟩
        · exact ih q u hu
  · induction ss generalizing us with
    | nil => cases h; rfl
    | cons z ss ih =>
      cases h with
      | cons r q =>
        obtain ⟨t, rfl⟩ := r
        rw [List.any_cons, List.any_cons, ih q]
theorem op_inT {X : Cx} {k : Nat} {K : Frag} (hr : Room k X.A) (hK : X.K = K) : OpR X (compareOp .In) (rInT K) := by
  subst hK
  intro pins s σ H x y v u Q I rx ry h
  obtain ⟨p, ss, rfl, hq, ex, q⟩ := h
  cases ry
  have hu := hr.un
  rcases hq with hq | hq
  · obtain ⟨its, r, pl, hz⟩ := I.list hq
    obtain ⟨g, h1, h2⟩ := vals_txt (f := fun z => eqS z x) r
    refine SeqAt.in_listAt g pl.isList (fun w hw => ?_) ⟨.bl _, H, I, rfl, ?_⟩
    · obtain ⟨z, t, rfl, e⟩ := h1 w (by simpa using hw)
      rw [e]
      exact (eqT_at I (by rw [units_in1]; omega) ex rx).1
    · rw [show its.toArray.any g = its.any g by simp, h2]
      exact q
  · obtain ⟨its, r, pl, hz⟩ := I.tuple hq
    obtain ⟨g, h1, h2⟩ := vals_txt (f := fun z => eqS z x) r
    refine SeqAt.in_tupleAt g pl (fun w hw => ?_) ⟨.bl _, H, I, rfl, ?_⟩
    · obtain ⟨z, t, rfl, e⟩ := h1 w (by simpa using hw)
      rw [e]
      exact (eqT_at I (by rw [units_in1]; omega) ex rx).1
    · rw [show its.toArray.any g = its.any g by simp, h2]
      exact q
end L2

set_option Elab.async false
set_option linter.all false
set_option maxRecDepth 100000
namespace L2
open PySem PySem.Spec PySem.W PyProof.Rows
open AutoSeq1 (wpAny_loadPart')
/-! ### enumerate(tuple) -/
theorem enum_newT (l : Addr) (items : Array Value) (o : Obj) (n : Nat) (hc : o.cls = .type "tuple") (hd : o.data = .seq items n) :
    Meets (Builtin.«enumerate.__new__» ⟨[.type "enumerate", .ref l], []⟩) (fun _ R s => s.heap.get? l = some o ∧
      R (.ok (.ret (.ref (s.heap.push { cls := .type "tuple_iterator", data := .fields #[.ref l, .int 0 0] }).objs.size)))
        { s with heap := (s.heap.push { cls := .type "tuple_iterator", data := .fields #[.ref l, .int 0 0] }).push { cls := .type "enumerate", data := .fields #[.none, .bool false, .ref s.heap.objs.size, rawInt 0, .none, .none] } }) :=
  .of_wp fun prog w A R s h => by
    obtain ⟨hp, g, d, tk, os⟩ := s
    obtain ⟨c, dd, dt, sl⟩ := o
    cases hc
    cases hd
    obtain ⟨hl, h⟩ := h
    have q0 := sub_enumerate
    have hT : Heap.IsTuple (Shared.heap ⟨hp, g, d, tk, os⟩) l items := ⟨_, hl, rfl, n, rfl⟩
    wp_walk using wpAny_loadPart' hl
    refine wpAny_stack_any fun st => wpAny_pure ?_
    split
    · rename_i c _ _ _ _ _
      cases (c == Value.type "enumerate") <;> (wp_walk using wpAny_loadPart' hl, wpAny_pyIter_tuple hT; exact ⟨_, rfl, h⟩)
    · wp_walk using wpAny_loadPart' hl, wpAny_pyIter_tuple hT
      exact ⟨_, rfl, h⟩
section
variable {prog : Program} {w : World} {A : Around} {E : Value → Shared → Prop} {s : Shared}
theorem call_enumT {l : Addr} {items : Array Value} {Q : Value → Shared → Prop} (hT : s.heap.IsTuple l items)
    (h : ∀ h', IsEnum h' (s.heap.objs.size + 1) s.heap.objs.size 0 .none → h'.IsTupleIter s.heap.objs.size l 0 → h'.objs.size = s.heap.objs.size + 2 →
      (∀ b o, s.heap.get? b = some o → h'.get? b = some o) → Q (.ref (s.heap.objs.size + 1)) { s with heap := h' }) : wpAny (model prog w) A (call (.type "enumerate") [.ref l]) Q E s := by
  obtain ⟨o, ho, hc, n, hd⟩ := hT
  refine callType_new F.called_enumerate (by decide) (F.typeCall_enumerate_1 _) (F.newCall_enumerate_1 _) (fun obj => F.args_object_init_2 obj _) F.entry_enumerate_new (enum_newT l items o n hc hd) ⟨ho, ?_⟩
  generalize e1 : s.heap.push { cls := .type "tuple_iterator", data := .fields #[.ref l, .int 0 0] } = h1
  have z1 : h1.objs.size = s.heap.objs.size + 1 := by rw [← e1]; exact Heap.size_push ..
  have g1 : h1.get? s.heap.objs.size = some { cls := .type "tuple_iterator", data := .fields #[.ref l, .int 0 0] } := by rw [← e1]; exact Heap.get?_push_size _ rfl
  have k1 : ∀ b o, s.heap.get? b = some o → h1.get? b = some o := fun b o q => by rw [← e1]; exact Heap.get?_push_of_some _ q
  generalize e2 : h1.push { cls := .type "enumerate", data := .fields #[.none, .bool false, .ref s.heap.objs.size, rawInt 0, .none, .none] } = h2
  have g2 : IsEnum h2 (s.heap.objs.size + 1) s.heap.objs.size 0 .none := by
    rw [← e2, ← z1]
    exact Heap.get?_push_size _ rfl
  have k2 : ∀ b o, h1.get? b = some o → h2.get? b = some o := fun b o q => by rw [← e2]; exact Heap.get?_push_of_some _ q
  show _ ∧ _
  rw [z1]
  exact ⟨⟨_, g2, rfl⟩, h _ g2 ⟨_, k2 _ _ g1, rfl, rfl⟩ (by rw [← e2, Heap.size_push, z1]) fun b o q => k2 _ _ (k1 _ _ q)⟩
theorem next_tupI {it t : Addr} {i : Nat} {items : Array Value} {x : Value} {Q : Value → Shared → Prop} (hit : s.heap.IsTupleIter it t i) (ht : s.heap.IsTuple t items) (hx : items[i]? = some x)
    (hQ : ∀ h', h'.IsTupleIter it t (i + 1) → Heap.SameBut it s.heap h' → Q x { s with heap := h' }) : wpAny (model prog w) A (Builtin.SmallTypes.nextOf (.ref it)) Q E s := by
  obtain ⟨oi, hoi, hci, hdi⟩ := id hit
  obtain ⟨ot, hot, _, nt, hdt⟩ := ht
  unfold Builtin.SmallTypes.nextOf
  refine wpAny_bind (wpAny_callSpecial?_slot (name := Str.ofString "__next__") hit.typeIs F.slot_tuple_iterator_next (wpAny_call_entry F.slot_tuple_iterator_next hit.typeIs F.entry_tuple_iterator_next ?_ (F.args_tuple_iterator_next_1 _)))
  show wpAny _ _ (field (.ref it) 0 >>= _) _ _ s
  refine wpAny_bind (wpAny_field hoi hdi (x := .ref t) rfl ?_)
  show wpAny _ _ (if (Value.ref t == Value.none) = true then _ else _) _ _ s
  rw [if_neg (by exact Bool.false_ne_true)]
  show wpAny _ _ (field (.ref it) 1 >>= _) _ _ s
  refine wpAny_bind (wpAny_field hoi hdi (x := .int i 0) rfl ?_)
  show wpAny _ _ (seqItems? (.ref t) >>= _) _ _ s
  refine wpAny_bind (wpAny_seqItems hot hdt ?_)
  simp only [Int.toNat_natCast, hx]
  refine wpAny_bind (wpAny_setField hoi hdi (by simp) (wpAny_pure ⟨x, rfl, wpAny_pure (hQ _ ?_ (Heap.SameBut.update ..))⟩))
  refine ⟨_, Heap.get?_update_self _ hoi (Obj.isFreed_of_fields (Obj.data_mapFields hdi _)), (Obj.cls_mapFields ..).trans hci, ?_⟩
  rw [Obj.data_mapFields hdi]
  simp [rawInt]
theorem next_tupE {it t : Addr} {i : Nat} {items : Array Value} {Q : Value → Shared → Prop} (hh : A.handled = none) (hit : s.heap.IsTupleIter it t i) (ht : s.heap.IsTuple t items) (hx : items[i]? = none)
    (hE : ∀ h' e, Heap.ExtBut it s.heap h' → (∃ o, h'.get? e = some o ∧ o.cls = .type "StopIteration") → E (.ref e) { s with heap := h' }) : wpAny (model prog w) A (Builtin.SmallTypes.nextOf (.ref it)) Q E s := by
  obtain ⟨oi, hoi, hci, hdi⟩ := id hit
  obtain ⟨ot, hot, _, nt, hdt⟩ := ht
  unfold Builtin.SmallTypes.nextOf
  refine wpAny_bind (wpAny_callSpecial?_slot (name := Str.ofString "__next__") hit.typeIs F.slot_tuple_iterator_next (wpAny_call_entry F.slot_tuple_iterator_next hit.typeIs F.entry_tuple_iterator_next ?_ (F.args_tuple_iterator_next_1 _)))
  show wpAny _ _ (field (.ref it) 0 >>= _) _ _ s
  refine wpAny_bind (wpAny_field hoi hdi (x := .ref t) rfl ?_)
  show wpAny _ _ (if (Value.ref t == Value.none) = true then _ else _) _ _ s
  rw [if_neg (by exact Bool.false_ne_true)]
  show wpAny _ _ (field (.ref it) 1 >>= _) _ _ s
  refine wpAny_bind (wpAny_field hoi hdi (x := .int i 0) rfl ?_)
  show wpAny _ _ (seqItems? (.ref t) >>= _) _ _ s
  refine wpAny_bind (wpAny_seqItems hot hdt ?_)
  simp only [Int.toNat_natCast, hx]
  refine wpAny_bind (wpAny_rule (wpAny_bind (wpAny_setField hoi hdi (by simp) ?_)))
  show wpAny _ _ (newExc (.type "StopIteration") [] >>= _) _ _ _
  refine wpAny_bind ?_
  simp only [newExc, newTuple]
  refine wpAny_bind (wpAny_newObj_type ?_ (by size_fits))
  refine wpAny_bind (m := firstArgMember _ _) (wpAny_of_eq (a := Value.none) (by simp only [firstArgMember]; rfl) ?_)
  refine wpAny_newObj_type ?_ (by size_fits)
  simp only [raiseNew]
  refine wpAny_bind (wpAny_handled ?_)
  rw [show A.in1.handled = none from hh]
  refine wpAny_bind (wpAny_pure (wpAny_throw (hE _ _ ?_ ⟨_, Heap.get?_push_size _ rfl, rfl⟩)))
  exact ((Heap.SameBut.update ..).extBut.push _).push _
theorem draws_tup {it t : Addr} {items : Array Value} (hh : A.handled = none) (ne : t ≠ it) : Draws prog w A it [it, t] items.size (fun i x => items[i]? = some x) (fun i h => h.IsTupleIter it t i ∧ h.IsTuple t items) where
  live := fun i h st => let ⟨o, q, _⟩ := st.1; ⟨o, q⟩
  frame := fun i h h' st k => ⟨st.1.at fun o q => k it (by simp) o q, let ⟨o, q, r⟩ := st.2; ⟨o, k t (by simp) o q, r⟩⟩
  item := fun i s Q E hi st hQ => next_tupI st.1 st.2 (x := items[i]) (by simp [hi]) fun h' st' sb => hQ _ h' s.toks (by simp [hi]) ⟨st', let ⟨o, q, r⟩ := st.2; ⟨o, (sb.2 t ne).trans q, r⟩⟩ sb
  done := fun s Q E st hE => next_tupE hh st.1 st.2 (by simp) hE
end
/-- the tuple at a, each item in a new pair -/
def ItT (K : Frag) (a : Addr) : It :=
  ⟨fun i H => ∃ (xs : List V) (x : V), SqT K H a xs ∧ xs[i]? = some x, fun i H v H' => ∃ T x, v = .ref T ∧ H T = none ∧ H' = upd H T (.tup [.int (i : Nat), x]) ∧ ∀ xs, SqT K H a xs → xs[i]? = some x, fun i H => ∃ xs : List V, SqT K H a xs ∧ xs.length ≤ i⟩
theorem turn_enumT {P : Program} {w : World} {K : Frag} {elts : List Expr} {kk : Nat} {tpos : Pos} (a e it : Addr) (nea : a ≠ it) (nee : e ≠ a) :
    Turn P w K (.Tuple elts kk tpos) (ItT K a) [e, it] e (fun i h => (∃ old, IsEnum h e it ((i : Nat) : Int) old) ∧ h.IsTupleIter it a i ∧ e ≠ it) where
  mem := by simp
  obj := fun i h st b hb => by
    obtain ⟨⟨old, he⟩, ⟨o, ho, hc, hd⟩, _⟩ := st
    rcases (by simpa using hb : b = e ∨ b = it) with rfl | rfl
    · exact ⟨_, he, fun v q => nomatch q⟩
    · exact ⟨o, ho, fun v q => by rw [hd] at q; cases q⟩
  keep := fun i h h' st k => let ⟨⟨old, he⟩, hi, hne⟩ := st; ⟨⟨old, k e (by simp) _ he⟩, hi.at fun o q => k it (by simp) o q, hne⟩
  item := by
    intro X hP hw hK hc i pins s σ H E I hf st hg
    subst hP hw hK
    obtain ⟨⟨old, he⟩, hit, hne⟩ := st
    obtain ⟨xs, x, hq, hx⟩ := hg
    obtain ⟨its, rv, p, hz⟩ := I.tuple hq
    obtain ⟨u, hu, ru⟩ := rv.get hx
    have hel : e < s.heap.objs.size := Heap.lt_size he
    have hil : it < s.heap.objs.size := by obtain ⟨_, q, _⟩ := hit; exact Heap.lt_size q
    have hlt : i < its.toArray.size := by
      have := (List.getElem?_eq_some_iff.mp hu).1
      simpa using this
    refine wpAny_pyNext_enum_itemD (draws_tup (A := X.A.in1) (I.ok.hd hc) nea) he ⟨hit, p⟩ hlt hne (by simp [hne, nee]) fun y h' tk hy ho st' hT hsz hk => ?_
    have ey : y = u := by
      simp only [List.getElem?_toArray] at hy
      rw [hu] at hy
      exact (Option.some.inj hy).symm
    subst ey
    refine ⟨_, rfl, wpAny_letOwnedTupleGo_enum (s := { s with heap := h', toks := tk + 1 }) ho fun h'' he' sb => ?_⟩
    have hT2 : h''.get? s.heap.objs.size = some { cls := .type "tuple", data := .seq #[.int i tk, y] } := (sb.2 _ (Nat.ne_of_gt hel)).trans hT
    have new : ObjOk X.prog X.w (upd H s.heap.objs.size (.tup [.int (i : Nat), x])) h'' s.heap.objs.size (.tup [.int (i : Nat), x]) :=
      ⟨by show 2 ≤ sizeLine; decide, [.int i tk, y], .cons ⟨_, rfl⟩ (.cons ru .nil), ⟨_, hT2, rfl, _, rfl⟩⟩
    have I1 : Inv X pins σ (upd H s.heap.objs.size (.tup [.int (i : Nat), x])) { s with heap := h'', toks := tk + 1 } :=
      I.turnedNew (ch := [e, it]) (fun b ob hb q => (sb.2 b (fun z => hb (by simp [z]))).trans (hk b ob (fun z => hb (by simp [z])) (fun z => hb (by simp [z])) q)) hf (Nat.le_refl _) new
    refine ⟨.ref s.heap.objs.size, _, I1, rfl, ⟨_, x, rfl, I.hok.fresh (Nat.le_refl _), rfl, fun ys hy => by rw [I.tuple_inj hy hq]; exact hx⟩, ⟨⟨y, ?_⟩, st'.1.at fun o q => (sb.2 it (Ne.symm hne)).trans q, hne⟩, fun b hb => ?_⟩
    · rw [show ((i + 1 : Nat) : Int) = (i : Int) + 1 by omega]
      exact he'
    · have hb' : b < s.heap.objs.size := by
        rcases (by simpa using hb : b = e ∨ b = it) with rfl | rfl
        · exact hel
        · exact hil
      rw [upd_ne (Nat.ne_of_lt hb')]
      exact (hf b hb).1
  done := by
    intro X hP hw hK hc i pins s σ H E I hf st hg
    subst hP hw hK
    obtain ⟨⟨old, he⟩, hit, hne⟩ := st
    obtain ⟨xs, hq, hx⟩ := hg
    obtain ⟨its, rv, p, hz⟩ := I.tuple hq
    obtain ⟨f0, f1, f2, f3, f4, f5⟩ := hf it (by simp)
    have hl := rv.length
    have hT : s.TypeIs (.ref e) "enumerate" := ⟨_, he, rfl⟩
    unfold pyNext
    refine wpAny_bind (wpAny_attempt (wpAny_callSpecial?_slot (name := Str.ofString "__next__") hT F.slot_enumerate_next (wpAny_call_entry F.slot_enumerate_next hT F.entry_enumerate_next ?_ (F.args_enumerate_next_1 _))))
    show wpAny _ _ (field (.ref e) 2 >>= _) _ _ _
    refine wpAny_bind (wpAny_field he rfl (x := .ref it) rfl (wpAny_bind (next_tupE (A := X.A.in1) (I.ok.hd hc) hit p (by simp; omega) fun h' x he' hx' => ?_)))
    obtain ⟨o, ho, hc'⟩ := hx'
    refine wpAny_bind (wpAny_isInstance (T := "StopIteration") (b := true) ⟨o, ho, hc'⟩ isSubtype_stop (wpAny_pure ⟨rfl, ?_⟩))
    exact I.turned (t' := s.toks) (fun b o hb q => he' b o hb q) f0 f1 f3 f4 f5
  self := fun A i s Q E st h => let ⟨⟨_, he⟩, _⟩ := st; wpAny_pyIter_enum he h
def iEnumT (K : Frag) (ta : TA) : TI := fun σ H R => ta σ H fun vs H1 => ∃ a xs, vs = [.ref a] ∧ SqT K H1 a xs ∧ R (ItT K a) H1
/-- the loop over it -/
theorem for_enumT {K : Frag} {a : Addr} {xs : List V} {g : TG} {tb : TS} {D : Ends} {σ : St} {H : Hp} (Pv : Nat → St → Hp → Prop) (h0 : Pv 0 σ H) (hl : ∀ i σ H, i ≤ xs.length → Pv i σ H → SqT K H a xs)
    (hs : ∀ i x T σ H, xs[i]? = some x → Pv i σ H → H T = none → g (.ref T) σ (upd H T (.tup [.int (i : Nat), x])) fun σ2 H2 => tb { D with nx := Pv (i + 1), ct := Pv (i + 1), bk := D.nx } σ2 H2) (hd : ∀ σ H, Pv xs.length σ H → D.nx σ H) :
    ∃ W : Nat → Nat → St → Hp → Prop, (∃ m, W 0 m σ H) ∧ ∀ i m σ H, W i m σ H →
      ((ItT K a).stop i H ∧ D.nx σ H) ∨ ((ItT K a).go i H ∧ ∃ N : St → Hp → Prop, (∀ σ' H', N σ' H' → ∃ m', m' < m ∧ W (i + 1) m' σ' H') ∧ ∀ x H', (ItT K a).yld i H x H' → g x σ H' fun σ2 H2 => tb { D with nx := N, ct := N, bk := D.nx } σ2 H2) := by
  refine ⟨fun i m σ H => m = xs.length - i ∧ i ≤ xs.length ∧ Pv i σ H, ⟨xs.length, by simp, Nat.zero_le _, h0⟩, ?_⟩
  rintro i m σ H ⟨rfl, hi, p⟩
  have q := hl i σ H hi p
  by_cases hlt : i < xs.length
  · refine .inr ⟨⟨xs, xs[i], q, by simp [hlt]⟩, Pv (i + 1), fun σ' H' p' => ⟨xs.length - (i + 1), by omega, rfl, hlt, p'⟩, fun x H' y => ?_⟩
    obtain ⟨T, x', e1, e2, e3, y⟩ := y
    subst e1 e3
    exact hs i x' T σ H (y xs q) p e2
  · obtain rfl : i = xs.length := by omega
    exact .inl ⟨⟨xs, q, Nat.le_refl _⟩, hd σ H p⟩
end L2

set_option Elab.async false
set_option linter.all false
set_option maxRecDepth 100000
namespace L2
open PySem PySem.Spec PySem.W PyProof.Rows
/-! ### enumerate(a list or a tuple) -/
def iEnumX (K : Frag) (ta : TA) : TI := fun σ H R => ta σ H fun vs H1 => ∃ a, vs = [.ref a] ∧ ((∃ xs, SqL K H1 a xs ∧ R (Ite K a) H1) ∨ ∃ xs, SqT K H1 a xs ∧ R (ItT K a) H1)
theorem pi_enumX {X : Cx} {e : Expr} {ta : TA} {p pos tpos : Pos} {elts : List Expr} {kk : Nat} (hg : Gl X "enumerate") (hm : X.mg "enumerate" = none) (ha : PA X [e] ta) (hs : starEach [e] X.env = [(false, eval e X.env)] := by rfl) :
    PI X (.Tuple elts kk tpos) (.Call (.Name "enumerate" p) [e] [] pos) (iEnumX X.K ta) := by
  intro pins s σ H R I h
  refine Call_ (ld_blt I hg hm boot_enumerate (PyProof.Rows.callWith_type1 (thn (ha pos pins s σ H _ I h) fun us s1 ⟨vs, H1, I1, r1, q1⟩ => ?_) hs rfl))
  obtain ⟨a, ex, q⟩ := q1
  subst ex
  cases r1 with
  | cons r rr =>
    cases rr
    cases r
    rcases q with ⟨xs, hq, q⟩ | ⟨xs, hq, q⟩
    · obtain ⟨its, rv, p', hz⟩ := I1.list hq
      refine call_enumerate_list p'.isList fun h' he hit hsz hk => wpAny_pyIter_enum he ?_
      have I2 : Inv X pins σ H1 { s1 with heap := h' } := I1.kept (t' := s1.toks) hk
      refine ⟨s1.heap.objs.size + 1, [s1.heap.objs.size + 1, s1.heap.objs.size], _, _, H1, rfl, I2, turn_enum a (s1.heap.objs.size + 1) s1.heap.objs.size, ⟨⟨.none, he⟩, hit, Nat.succ_ne_self _⟩, fun b hb => ?_, q⟩
      have hle : s1.heap.objs.size ≤ b := by
        rcases (by simpa using hb : b = s1.heap.objs.size + 1 ∨ b = s1.heap.objs.size) with rfl | rfl
        · exact Nat.le_add_right _ _
        · exact Nat.le_refl _
      exact I1.fpOk hle (I1.hok.fresh hle)
    · obtain ⟨its, rv, p', hz⟩ := I1.tuple hq
      have hla : a < s1.heap.objs.size := by obtain ⟨_, z, _⟩ := p'; exact Heap.lt_size z
      refine call_enumT p' fun h' he hit hsz hk => wpAny_pyIter_enum he ?_
      have I2 : Inv X pins σ H1 { s1 with heap := h' } := I1.kept (t' := s1.toks) hk
      refine ⟨s1.heap.objs.size + 1, [s1.heap.objs.size + 1, s1.heap.objs.size], _, _, H1, rfl, I2, turn_enumT a (s1.heap.objs.size + 1) s1.heap.objs.size (Nat.ne_of_lt hla) (Nat.ne_of_gt (Nat.lt_succ_of_lt hla)), ⟨⟨.none, he⟩, hit, Nat.succ_ne_self _⟩, fun b hb => ?_, q⟩
      have hle : s1.heap.objs.size ≤ b := by
        rcases (by simpa using hb : b = s1.heap.objs.size + 1 ∨ b = s1.heap.objs.size) with rfl | rfl
        · exact Nat.le_add_right _ _
        · exact Nat.le_refl _
      exact I1.fpOk hle (I1.hok.fresh hle)
theorem for_enum {K : Frag} {a : Addr} {xs : List V} {g : TG} {tb : TS} {D : Ends} {σ : St} {H : Hp} (Pv : Nat → St → Hp → Prop) (h0 : Pv 0 σ H) (hl : ∀ i σ H, i ≤ xs.length → Pv i σ H → SqL K H a xs)
    (hs : ∀ i x T σ H, xs[i]? = some x → Pv i σ H → H T = none → g (.ref T) σ (upd H T (.tup [.int (i : Nat), x])) fun σ2 H2 => tb { D with nx := Pv (i + 1), ct := Pv (i + 1), bk := D.nx } σ2 H2) (hd : ∀ σ H, Pv xs.length σ H → D.nx σ H) :
    ∃ W : Nat → Nat → St → Hp → Prop, (∃ m, W 0 m σ H) ∧ ∀ i m σ H, W i m σ H →
      ((Ite K a).stop i H ∧ D.nx σ H) ∨ ((Ite K a).go i H ∧ ∃ N : St → Hp → Prop, (∀ σ' H', N σ' H' → ∃ m', m' < m ∧ W (i + 1) m' σ' H') ∧ ∀ x H', (Ite K a).yld i H x H' → g x σ H' fun σ2 H2 => tb { D with nx := N, ct := N, bk := D.nx } σ2 H2) := by
  refine ⟨fun i m σ H => m = xs.length - i ∧ i ≤ xs.length ∧ Pv i σ H, ⟨xs.length, by simp, Nat.zero_le _, h0⟩, ?_⟩
  rintro i m σ H ⟨rfl, hi, p⟩
  have q := hl i σ H hi p
  by_cases hlt : i < xs.length
  · refine .inr ⟨⟨xs, xs[i], q, by simp [hlt]⟩, Pv (i + 1), fun σ' H' p' => ⟨xs.length - (i + 1), by omega, rfl, hlt, p'⟩, fun x H' y => ?_⟩
    obtain ⟨T, x', e1, e2, e3, y⟩ := y
    subst e1 e3
    exact hs i x' T σ H (y xs q) p e2
  · obtain rfl : i = xs.length := by omega
    exact .inl ⟨⟨xs, q, Nat.le_refl _⟩, hd σ H p⟩
/-! ### xs[::c], c 1 or -1 -/
def tSlS (K : Frag) (te tc : TE) : TE := fun σ H Q => te σ H fun x H1 => tc σ H1 fun y H2 => ∃ a xs c, x = .ref a ∧ y = .int c ∧ SqL K H2 a xs ∧ (c = 1 ∨ c = -1) ∧ ∀ p, H2 p = none → Q (.ref p) (upd H2 p (.lst (if c = 1 then xs else xs.reverse)))
end L2

set_option Elab.async false
set_option linter.all false
set_option maxRecDepth 100000
namespace L2
open PySem PySem.Spec PySem.Calls PySem.W PyProof.Rows
/-- no error is let out -/
def EF : XK := fun _ _ _ => False
section
variable {X : Cx} {k j : Nat} {f C : Addr} {fd : FuncData} {ps : List Str} {sp : Sp} {LO : LOT} {x m : Str} {p pos apos : Pos} {e o : Expr} {es : List Expr} {ta : TE} {t : TA}
theorem run_makeE {CX : CXT} {pins : List (Addr × Obj)} {σ : St} {H : Hp} {s : Shared} {Q : VK} {E : XK} {us : List Value} {vs : List V} (M : Mk X.K C f) (F : FnOk X.prog X.w X.K X.mg X.base CX k f fd ps sp) (hr : Room (k + 1) X.A) (hb : Binds X.K fd ps [])
    (hx : PassesAt CX X σ E) (I : Inv X pins σ H s) (r : Vals vs us)
    (h : ∀ x dx, H x = none → H dx = none → dx ≠ x → sp (.ref x :: vs) (upd (upd H dx (.own x)) x (.ins C dx [])) (fun v H2 => v = .non ∧ Q (.ref x) H2) E) : wpAny (model X.prog X.w) X.A (call (.ref C) us) (EP X pins σ Q) X.xe s := by
  have hq := h (s.heap.objs.size + 1) s.heap.objs.size (I.hok.fresh (Nat.le_add_right _ 1)) (I.hok.fresh (Nat.le_refl _)) (Nat.ne_of_lt (Nat.lt_add_one _))
  have I2 := Inv.made (C := C) I
  have r2 : Vals (V.ref (s.heap.objs.size + 1) :: vs) (Value.ref (s.heap.objs.size + 1) :: us) := .cons rfl r
  have hl : (Value.ref (s.heap.objs.size + 1) :: us).length = ps.length := r2.length.symm.trans (F.len _ _ _ _ hq)
  have hbd := hb { s with heap := _ } (Value.ref (s.heap.objs.size + 1) :: us) I2.kIn (by rw [List.append_nil]; exact hl)
  rw [List.append_nil] at hbd
  refine wpAny_call (make_map (f := f) I.kIn M.makes M.init (beq_iff_eq.mp M.fn) (codeAny_mono (F.run _ X.stack _ _ ⟨Value.ref (s.heap.objs.size + 1) :: us, []⟩ (Value.ref (s.heap.objs.size + 1) :: us) _ _ E (hr.make C us [])
    (I2.env0.make C us []) hbd r2 hq) fun r s' hq' => ?_))
  cases r with
  | error e => exact hx pins _ _ e s' I2 hq'
  | ok fl =>
    cases fl with
    | ret u =>
      obtain ⟨v, H', I3, rv, ev, q3⟩ := I2.after hq'
      subst ev
      exact ⟨rv, ⟨V.ref (s.heap.objs.size + 1), H', I3, rfl, q3⟩⟩
    | next => exact False.elim hq'
    | brk => exact False.elim hq'
    | cont => exact False.elim hq'
/-- C(e, ..) that may raise -/
theorem pe_mkE (F : CalM X.prog X.w X.K X.mg X.base (CXF X.prog X.w) k x C ps sp) (hr : Room j X.A) (hL : ∀ σ E, LO σ E → LetsAt X σ E) (ha : PA X (e :: es) t) (hg : Gl X x := by rfl) (hjk : k + 1 ≤ j := by decide) (hdb : (x == ("__debug__" : Str)) = false := by decide)
    (he : starEach (e :: es) X.env = (false, eval e X.env) :: starEach es X.env := by rfl) (hpl : (backTo pos (starEach es X.env)).any (·.1) = false := by rfl) : PE X (.Call (.Name x p) (e :: es) [] pos) (tMakeE LO C sp t) := by
  obtain ⟨f, fd, G, M, hb⟩ := F.ex
  intro pins s σ H Q I h
  refine wpAny_Call_Name_kw (ld_glob I hg F.nm ?_ hdb)
  refine callWith_K (h₀ := X.base) I.ok.mod.kin M.kp (thn (ha pos pins s σ H _ I h) fun us s1 ⟨vs, H1, I1, r, E, lo, q⟩ => ⟨I1.kIn, ?_⟩) he hpl
  exact run_makeE M G (hr.mono hjk) hb (hL σ E lo).passes I1 r q
end
end L2

set_option Elab.async false
set_option linter.all false
set_option maxRecDepth 100000
namespace L2
open PySem PySem.Spec PySem.W PyProof.Rows
/-- the loop over enumerate of a list or a tuple -/
theorem for_enumX {K : Frag} {a : Addr} {xs : List V} {g : TG} {tb : TS} {D : Ends} {σ : St} {H : Hp} (Pv : Nat → St → Hp → Prop) (h0 : Pv 0 σ H) (hl : (∀ i σ H, i ≤ xs.length → Pv i σ H → SqL K H a xs) ∨ ∀ i σ H, i ≤ xs.length → Pv i σ H → SqT K H a xs)
    (hs : ∀ i x T σ H, xs[i]? = some x → Pv i σ H → H T = none → g (.ref T) σ (upd H T (.tup [.int (i : Nat), x])) fun σ2 H2 => tb { D with nx := Pv (i + 1), ct := Pv (i + 1), bk := D.nx } σ2 H2) (hd : ∀ σ H, Pv xs.length σ H → D.nx σ H) :
    (∃ ys, SqL K H a ys ∧ ∃ W : Nat → Nat → St → Hp → Prop, (∃ m, W 0 m σ H) ∧ ∀ i m σ H, W i m σ H →
      ((Ite K a).stop i H ∧ D.nx σ H) ∨ ((Ite K a).go i H ∧ ∃ N : St → Hp → Prop, (∀ σ' H', N σ' H' → ∃ m', m' < m ∧ W (i + 1) m' σ' H') ∧ ∀ x H', (Ite K a).yld i H x H' → g x σ H' fun σ2 H2 => tb { D with nx := N, ct := N, bk := D.nx } σ2 H2)) ∨
    (∃ ys, SqT K H a ys ∧ ∃ W : Nat → Nat → St → Hp → Prop, (∃ m, W 0 m σ H) ∧ ∀ i m σ H, W i m σ H →
      ((ItT K a).stop i H ∧ D.nx σ H) ∨ ((ItT K a).go i H ∧ ∃ N : St → Hp → Prop, (∀ σ' H', N σ' H' → ∃ m', m' < m ∧ W (i + 1) m' σ' H') ∧ ∀ x H', (ItT K a).yld i H x H' → g x σ H' fun σ2 H2 => tb { D with nx := N, ct := N, bk := D.nx } σ2 H2)) := by
  rcases hl with hl | hl
  · exact .inl ⟨xs, hl 0 σ H (Nat.zero_le _) h0, for_enum Pv h0 hl hs hd⟩
  · exact .inr ⟨xs, hl 0 σ H (Nat.zero_le _) h0, for_enumT Pv h0 hl hs hd⟩
/-! ### what a raised error wants -/
/-- of a new error of the class C with these attributes E is wanted -/
def RaiseX (C : Addr) (fs : List (Str × V)) (H : Hp) (E : XK) : Prop := ∀ a d H', Same H H' → H a = none → H d = none → d ≠ a → H' a = some (XO a C (some d)) → H' d = some (XD d fs) → EAll E a C (some d) H'
theorem Same.none {H H' : Hp} (s : Same H H') {b : Addr} (h : H' b = none) : H b = none := by
  cases q : H b with
  | none => rfl
  | some o => rw [s _ _ q] at h; cases h
theorem RaiseX.mono {C : Addr} {fs : List (Str × V)} {H H1 : Hp} {E : XK} (h : RaiseX C fs H E) (s : Same H H1) : RaiseX C fs H1 E := fun a d H' s' na nd ne e1 e2 => h a d H' (s.trans s') (s.none na) (s.none nd) ne e1 e2
theorem same_mk {H H1 : Hp} {a : Addr} {o : HO} (na : H a = none) (sb : SameB a (upd H a o) H1) : Same H H1 := fun b u e => by
  have nb := ne_of_none e na
  exact sb b u (by rw [upd_ne nb]; exact e) nb
/-- the error's object is made and raised -/
theorem RaiseX.go {C a d : Addr} {fs : List (Str × V)} {H H2 : Hp} {E : XK} {o : HO} (h : RaiseX C fs H E) (na : H a = none) (sb : SameB a (upd H a o) H2) (hd : upd H a o d = none) (e1 : H2 a = some (XO a C (some d))) (e2 : H2 d = some (XD d fs)) : EAll E a C (some d) H2 := by
  have ne : d ≠ a := fun q => by
    subst q
    rw [upd_same] at hd
    cases hd
  exact h a d H2 (same_mk na sb) na (by rwa [upd_ne ne] at hd) ne e1 e2
/-- where E is what a caller wants of it: the heap at the handler -/
theorem RaiseX.mk {C : Addr} {fs : List (Str × V)} {H : Hp} {E : XK} (h : ∀ a d oT H', Same H H' → H a = none → d ≠ a → H' a = some (XR a C (some d) oT) → H' d = some (XD d fs) → E (.ref a) (some C) H') : RaiseX C fs H E := fun a d H' s na nd ne e1 e2 H2 oT x e3 =>
  h a d oT H2 (x.same s na) na ne e3 (x d _ ne e2)
end L2

set_option Elab.async false
set_option linter.all false
set_option maxRecDepth 100000
namespace L2
open PySem PySem.Spec PySem.W PyProof.Rows
/-! ### a cut: what holds behind a statement, behind an expression -/
def tCut (t u : TS) : TS := fun D σ H => ∃ Mid : St → Hp → Prop, t { D with nx := Mid } σ H ∧ ∀ σ' H', Mid σ' H' → u D σ' H'
theorem pss_cut {X : Cx} {st : Stmt} {rest : List Stmt} {t u : TS} (h1 : PS X st t) (h2 : PSs X rest u) : PSs X (st :: rest) (tCut t u) := by
  intro pins s σ H D I h
  obtain ⟨Mid, h, k⟩ := h
  refine wpAny_execs_cons (thn (h1 pins s σ H { D with nx := Mid } I h) fun f s1 q => ?_)
  cases f with
  | next =>
    obtain ⟨σ', H', I', q⟩ := q
    exact h2 pins s1 σ' H' D I' (k σ' H' q)
  | ret v => exact q
  | brk => exact q
  | cont => exact q
def tCutE (t : TE) : TE := fun σ H Q => ∃ M : VK, t σ H M ∧ ∀ v H', M v H' → Q v H'
theorem pe_cut {X : Cx} {e : Expr} {t : TE} (h1 : PE X e t) : PE X e (tCutE t) := by
  intro pins s σ H Q I h
  obtain ⟨M, h, k⟩ := h
  exact thn (h1 pins s σ H M I h) fun u s1 ⟨v, H', I', r, q⟩ => ⟨v, H', I', r, k v H' q⟩
theorem eqV_refl {x : V} (h : flatV x = true) : eqV x x = true := by
  cases x with
  | non => rfl
  | bl b => exact beq_self_eq_true b
  | int b => exact beq_self_eq_true b
  | str b => exact beq_self_eq_true b
  | _ => cases h
/-- e.f of a caught error, within a suite -/
theorem pe_rfldK {X : Cx} {K : Frag} {e : Expr} {f : Str} {pos : Pos} {ta : TE} (hK : X.K = K) (he : PE X e ta) (hb : attributeBase e f X.env (eval e X.env) = eval e X.env) : PE X (.Attribute e f pos) (tRFld K ta f) := by
  subst hK
  exact pe_rfld he hb
end L2

set_option Elab.async false
set_option linter.all false
set_option maxRecDepth 100000
/-! repr of data: flat things, lists, tuples, dicts of such. -/
namespace L2
open PySem PySem.Spec PySem.W PyProof.Rows
/-- the text of a flat thing -/
def flS : V → Str
  | .non => "None"
  | .bl b => if b then "True" else "False"
  | .int i => toString i
  | .str z => reprText z
  | _ => ""
def FlOk : V → Prop
  | .non => True
  | .bl _ => True
  | .int i => i.natAbs.log2 < 1920
  | .str z => (reprText z).length ≤ sizeLine
  | _ => False
/-- the text of a thing, n deep -/
def shS (H : Hp) : Nat → V → Str
  | n + 1, .ref a => match H a with
    | some (.lst xs) => listText (xs.map (shS H n))
    | some (.tup xs) => tupleText (xs.map (shS H n))
    | some (.dK kvs) => dictText (kvs.map fun kv => flS (kV kv.1) ++ ": " ++ flS kv.2)
    | _ => ""
  | _, x => flS x
def ShOk (H : Hp) : Nat → V → Prop
  | 0, x => FlOk x
  | n + 1, x => FlOk x ∨ ∃ a, x = .ref a ∧ ((∃ xs, (H a = some (.lst xs) ∨ H a = some (.tup xs)) ∧ ∀ y ∈ xs, ShOk H n y) ∨ ∃ kvs, H a = some (.dK kvs) ∧ ∀ kv ∈ kvs, FlOk (kV kv.1) ∧ FlOk kv.2)
section
variable {H : Hp} {n : Nat} {x : V} {a : Addr}
theorem shS_flat (h : FlOk x) : shS H n x = flS x := by
  cases n with
  | zero => rfl
  | succ n =>
    cases x with
    | ref a => exact False.elim h
    | _ => rfl
theorem shS_ref : shS H (n + 1) (.ref a) = match H a with
    | some (.lst xs) => listText (xs.map (shS H n))
    | some (.tup xs) => tupleText (xs.map (shS H n))
    | some (.dK kvs) => dictText (kvs.map fun kv => flS (kV kv.1) ++ ": " ++ flS kv.2)
    | _ => "" := rfl
theorem ShOk.up : ∀ {n : Nat} {x : V}, ShOk H n x → ShOk H (n + 1) x ∧ shS H (n + 1) x = shS H n x
  | 0, x, h => ⟨.inl h, (shS_flat h).trans (shS_flat (n := 0) h).symm⟩
  | n + 1, x, h => by
    rcases h with h | ⟨a, rfl, ⟨xs, h, hi⟩ | ⟨kvs, h, hi⟩⟩
    · exact ⟨.inl h, (shS_flat h).trans (shS_flat h).symm⟩
    · refine ⟨.inr ⟨a, rfl, .inl ⟨xs, h, fun y hy => (ShOk.up (hi y hy)).1⟩⟩, ?_⟩
      have e : xs.map (shS H (n + 1)) = xs.map (shS H n) := List.map_congr_left fun y hy => (ShOk.up (hi y hy)).2
      rw [shS_ref, shS_ref]
      rcases h with h | h <;> (rw [h]; dsimp only; rw [e])
    · refine ⟨.inr ⟨a, rfl, .inr ⟨kvs, h, hi⟩⟩, ?_⟩
      rw [shS_ref, shS_ref, h]
end
section
variable {P : Program} {w : World} {H : Hp} {h : Heap} {x : V} {u : Value}
theorem fl_is (o : FlOk x) (r : RelV x u) : ReprIs P w u (flS x) := by
  cases x with
  | non => cases r; exact ReprIs.none
  | bl b => cases r; exact ReprIs.bool b
  | int i => obtain ⟨t, rfl⟩ := r; exact ReprIs.int t o
  | str z => obtain ⟨t, rfl⟩ := r; exact ReprIs.str z t o
  | _ => exact False.elim o
theorem kv_K {as : List Addr} {d : Nat} : ∀ {kvs : List (Key × V)} {vs : List (Key × Value)} {es : List DictEntry}, KV kvs vs → Pairs (mixKind P w) es vs → (∀ kv ∈ kvs, FlOk (kV kv.1) ∧ FlOk kv.2) →
    ReprEntriesK P w as h d es (kvs.map fun kv => flS (kV kv.1) ++ ": " ++ flS kv.2)
  | _, _, _, .nil, .nil, _ => .nil
  | kv :: _, _, _, .cons r rr, .cons k v q, hf => by
    obtain ⟨e1, r2⟩ := r
    obtain ⟨f1, f2⟩ := hf kv List.mem_cons_self
    refine .cons (.of_is (fl_is f1 ?_) _ _ _) (.of_is (fl_is f2 (by rw [v]; exact r2)) _ _ _) (kv_K rr q fun z hz => hf z (List.mem_cons_of_mem _ hz))
    rcases keyIs_shape k with ⟨i, t, ek, ev⟩ | ⟨y, t, ek, ev⟩
    · rw [e1, ek, ev]; exact ⟨t, rfl⟩
    · rw [e1, ek, ev]; exact ⟨t, rfl⟩
theorem all_K {n : Nat} (ih : ∀ {x : V} {u : Value}, ShOk H n x → RelV x u → ∃ as, ReprK P w as h n u (shS H n x) ∧ ∀ b ∈ as, ShOk H n (.ref b)) :
    ∀ {xs : List V} {us : List Value}, Vals xs us → (∀ y ∈ xs, ShOk H n y) → ∃ as, ReprAllK P w as h n us (xs.map (shS H n)) ∧ ∀ b ∈ as, ShOk H n (.ref b)
  | _, _, .nil, _ => ⟨[], .nil, fun b hb => nomatch hb⟩
  | x :: xs, _, .cons r rr, hi => by
    obtain ⟨a1, k1, o1⟩ := ih (hi x List.mem_cons_self) r
    obtain ⟨a2, k2, o2⟩ := all_K ih rr fun y hy => hi y (List.mem_cons_of_mem _ hy)
    refine ⟨a1 ++ a2, .cons (k1.more fun b hb => List.mem_append_left _ hb) (k2.more_le (fun b hb => List.mem_append_right _ hb) (Nat.le_refl _)), fun b hb => ?_⟩
    rcases List.mem_append.mp hb with h | h
    · exact o1 b h
    · exact o2 b h
/-- what stands at a place that is shown -/
inductive AtK (P : Program) (w : World) (H : Hp) (h : Heap) (n : Nat) (a : Addr) : Str → Prop
  | nil {o : Obj} {m : Nat} : h.get? a = some o → o.cls = .type "list" → o.data = .seq #[] m → AtK P w H h n a "[]"
  | lst {o : Obj} {y : Value} {l : List Value} {m : Nat} {ts : List Str} {as : List Addr} : h.get? a = some o → o.cls = .type "list" → o.data = .seq (y :: l).toArray m → a ∉ as → ReprAllK P w as h n (y :: l) ts → (∀ b ∈ as, ShOk H n (.ref b)) → AtK P w H h n a (listText ts)
  | tup {o : Obj} {items : Array Value} {m : Nat} {ts : List Str} {as : List Addr} : h.get? a = some o → o.cls = .type "tuple" → o.data = .seq items m → a ∉ as → ReprAllK P w as h n items.toList ts → (∀ b ∈ as, ShOk H n (.ref b)) → AtK P w H h n a (tupleText ts)
  | dct {o : Obj} {es : Array DictEntry} {m : Nat} {ps : List Str} : h.get? a = some o → o.cls = .type "dict" → o.data = .dict es m → (a == sysModules) = false → ReprEntriesK P w [] h n es.toList ps → AtK P w H h n a (dictText ps)
theorem at_K {n : Nat} {a : Addr} (ok : HOk P w H h) (ih : ∀ {x : V} {u : Value}, ShOk H n x → RelV x u → ∃ as, ReprK P w as h n u (shS H n x) ∧ ∀ b ∈ as, ShOk H n (.ref b)) (o : ShOk H (n + 1) (.ref a)) (hd : ¬ ShOk H n (.ref a)) : AtK P w H h n a (shS H (n + 1) (.ref a)) := by
  rw [shS_ref]
  rcases o with f | ⟨b, e, ⟨xs, hx, hi⟩ | ⟨kvs, hx, hi⟩⟩
  · exact False.elim f
  · cases e
    rcases hx with hx | hx
    · obtain ⟨_, its, m, r, hg⟩ := (show ObjOk P w H h a (.lst xs) from ok a _ hx)
      obtain ⟨as, k, ho⟩ := all_K ih r hi
      rw [hx]
      dsimp only
      cases its with
      | nil =>
        cases r
        have q : listText (List.map (shS H n) []) = "[]" := listText_nil
        rw [q]
        exact .nil hg rfl rfl
      | cons y l => exact .lst hg rfl rfl (fun z => hd (ho a z)) k ho
    · obtain ⟨_, its, r, oo, hg, hc, m, hm⟩ := (show ObjOk P w H h a (.tup xs) from ok a _ hx)
      obtain ⟨as, k, ho⟩ := all_K ih r hi
      rw [hx]
      dsimp only
      exact .tup hg hc hm (fun z => hd (ho a z)) k ho
  · cases e
    obtain ⟨_, hs, vs, r, oo, es, ep, hg, hc, hm, _, hp, _⟩ := (show ObjOk P w H h a (.dK kvs) from ok a _ hx)
    rw [hx]
    dsimp only
    exact .dct hg hc.1 hm hs (kv_K r hp hi)
theorem sh_K (ok : HOk P w H h) : ∀ (n : Nat) {x : V} {u : Value}, ShOk H n x → RelV x u → ∃ as, ReprK P w as h n u (shS H n x) ∧ ∀ b ∈ as, ShOk H n (.ref b)
  | 0, x, u, o, r => ⟨[], by rw [shS_flat (n := 0) o]; exact .of_is (fl_is o r) _ _ _, fun b hb => nomatch hb⟩
  | n + 1, x, u, o, r => by
    have ih := @sh_K ok n
    by_cases f : FlOk x
    · exact ⟨[], by rw [shS_flat f]; exact .of_is (fl_is f r) _ _ _, fun b hb => nomatch hb⟩
    · obtain ⟨a, rfl⟩ : ∃ a, x = .ref a := by
        rcases o with o | ⟨a, e, _⟩
        · exact absurd o f
        · exact ⟨a, e⟩
      cases r
      by_cases hd : ShOk H n (.ref a)
      · obtain ⟨as, k, ho⟩ := ih hd rfl
        exact ⟨as, by rw [hd.up.2]; exact k.level_le (Nat.le_succ _), fun b hb => (ho b hb).up.1⟩
      · have at_ := at_K ok ih o hd
        generalize shS H (n + 1) (.ref a) = t at at_
        cases at_ with
        | nil h1 h2 h3 => exact ⟨[], ReprK.listEmpty h1 h2 h3, fun b hb => nomatch hb⟩
        | lst h1 h2 h3 h4 k ho =>
          refine ⟨_, ReprK.list h1 h2 h3 h4 (by simpa using k.length_eq) (fun i y e => k.item i y (by simpa using e)), fun b hb => ?_⟩
          rcases List.mem_cons.mp hb with rfl | hb
          · exact o
          · exact (ho b hb).up.1
        | tup h1 h2 h3 h4 k ho =>
          refine ⟨_, ReprK.tuple h1 h2 h3 h4 k, fun b hb => ?_⟩
          rcases List.mem_cons.mp hb with rfl | hb
          · exact o
          · exact (ho b hb).up.1
        | dct h1 h2 h3 h4 k =>
          refine ⟨_, ReprK.dict h1 h2 h3 h4 List.not_mem_nil k, fun b hb => ?_⟩
          rcases List.mem_cons.mp hb with rfl | hb
          · exact o
          · cases hb
end
theorem call_repr {X : Cx} {k : Nat} (hr : Room k X.A) : CallR X (.builtin "repr") (fun xs H Q => ∃ x n, xs = [x] ∧ ShOk H n x ∧ n ≤ 50 ∧ (shS H n x).length ≤ sizeLine ∧ Q (.str (shS H n x)) H) := by
  intro pins s σ H xs us Q I r hh
  obtain ⟨x, n, rfl, o, hn, hz, q⟩ := hh
  obtain ⟨u, rfl, ru⟩ := r.one
  have hu := hr.un
  by_cases f : FlOk x
  · rw [shS_flat f] at q hz
    have done : ∀ t, EP X pins σ Q (.str (flS x) t) { s with toks := s.toks + 1 } := fun t => ⟨.str (flS x), H, I.tok _, ⟨_, rfl⟩, q⟩
    cases x with
    | non => cases ru; exact P.repr_of_none (done _)
    | bl b => cases ru; exact P.repr_of_bool (done _)
    | int i => obtain ⟨t, rfl⟩ := ru; exact P.repr_of_int f (done _)
    | str z => obtain ⟨t, rfl⟩ := ru; exact P.repr_of_str (done _) hz
    | _ => exact False.elim f
  · have done : ∀ {t : Str} h' tok tk, t = shS H n x → (∀ b o, s.heap.get? b = some o → h'.get? b = some o) → ∃ y z, (Value.str t tok) = .str y z ∧ EP X pins σ Q (.str t tok) { s with heap := h', toks := tk } := fun {t} h' tok tk e hk => ⟨_, _, rfl, .str t, H, I.kept (t' := tk) hk, ⟨_, rfl⟩, by rw [e]; exact q⟩
    -- the least depth
    have least : ∃ m, m ≤ n ∧ ShOk H (m + 1) x ∧ ¬ ShOk H m x ∧ shS H (m + 1) x = shS H n x := by
      clear q hz done hn
      induction n with
      | zero => exact absurd o f
      | succ n ih =>
        by_cases hd : ShOk H n x
        · obtain ⟨m, h1, h2, h3, h4⟩ := ih hd
          exact ⟨m, by omega, h2, h3, by rw [h4, hd.up.2]⟩
        · exact ⟨n, by omega, o, hd, rfl⟩
    obtain ⟨m, hm, om, nm, em⟩ := least
    obtain ⟨a, rfl⟩ : ∃ a, x = .ref a := by
      rcases om with o | ⟨a, e, _⟩
      · exact absurd o f
      · exact ⟨a, e⟩
    cases ru
    have at_ := at_K I.hok (fun o r => sh_K I.hok m o r) om nm
    rw [em] at at_
    generalize et : shS H n (.ref a) = t at at_
    rw [et] at hz
    have hg : X.A.in1.guards = some [] := hr.gd
    have un1 : X.A.in1.units = X.A.units + 1 := rfl
    cases at_ with
    | nil h1 h2 h3 => exact call_repr_slot (by omega) ⟨_, h1, h2⟩ F.slot_list_repr.toG (call_list_repr_empty ⟨_, h1, h2⟩ h1 h3 (done _ _ _ et.symm fun _ _ e => e))
    | lst h1 h2 h3 h4 k ho =>
      refine call_repr_slot (by omega) ⟨_, h1, h2⟩ F.slot_list_repr.toG ?_
      exact call_list_reprK h1 h2 h3 h4 (by simpa using k.length_eq) (fun i y e => k.item i y (by simpa using e)) hg (fun b _ => Clear.nil b) (by omega) (fun _ _ e => e) (fun h' u tk hk => done h' u tk et.symm hk) hz
    | tup h1 h2 h3 h4 k ho =>
      refine call_repr_slot (by omega) ⟨_, h1, h2⟩ F.slot_tuple_repr ?_
      exact call_tuple_reprK h1 h2 h3 h4 k hg (fun b _ => Clear.nil b) (by omega) (fun _ _ e => e) (fun h' u tk hk => done h' u tk et.symm hk) hz
    | dct h1 h2 h3 h4 k =>
      refine call_repr_slot (by omega) ⟨_, h1, h2⟩ F.slot_dict_repr ?_
      exact call_dict_reprK h1 h2 h3 h4 List.not_mem_nil k hg (fun b _ => Clear.nil b) (by omega) (fun _ _ e => e) (fun h' u tk hk => done h' u tk et.symm hk) hz
end L2

set_option Elab.async false
set_option linter.all false
set_option maxRecDepth 100000
/-! Drawn data: flat things, no long text, no great number; lists and tuples of such, each level with a bound of its own; small dicts. -/
namespace L2
open PySem PySem.Spec PySem.W PyProof.Rows
def FlB : V → Prop
  | .non => True
  | .bl _ => True
  | .int i => i.natAbs < 10 ^ 40
  | .str z => z.length ≤ 16 ∧ ∀ c ∈ z.cps.toList, c < 16 ^ 8
  | _ => False
/-- data: N of each place; at most so many things at each level -/
def Dv (N : Addr → Prop) (H : Hp) : List Nat → V → Prop
  | [], x => FlB x
  | b :: bs, x => FlB x ∨ ∃ a, x = .ref a ∧ N a ∧ ((∃ xs, (H a = some (.lst xs) ∨ H a = some (.tup xs)) ∧ xs.length ≤ b ∧ ∀ y ∈ xs, Dv N H bs y) ∨ ∃ kvs, H a = some (.dK kvs) ∧ kvs.length ≤ 4 ∧ ∀ kv ∈ kvs, FlB (kV kv.1) ∧ FlB kv.2)
/-- bounds that are no less -/
inductive LeB : List Nat → List Nat → Prop
  | nil {bs : List Nat} : LeB [] bs
  | cons {a b : Nat} {as bs : List Nat} : a ≤ b → LeB as bs → LeB (a :: as) (b :: bs)
theorem LeB.refl : ∀ {bs : List Nat}, LeB bs bs
  | [] => .nil
  | _ :: _ => .cons (Nat.le_refl _) LeB.refl
section
variable {N N' : Addr → Prop} {H H' : Hp} {bs cs : List Nat} {b : Nat} {x : V} {a : Addr} {xs : List V}
theorem Dv.fl (h : FlB x) : Dv N H bs x := by
  cases bs with
  | nil => exact h
  | cons b bs => exact .inl h
theorem Dv.non : Dv N H bs .non := .fl True.intro
theorem Dv.bl (c : Bool) : Dv N H bs (.bl c) := .fl True.intro
theorem Dv.int {c : Int} (h : c.natAbs < 10 ^ 40) : Dv N H bs (.int c) := .fl h
theorem Dv.str {z : Str} (h : z.length ≤ 16 ∧ ∀ c ∈ z.cps.toList, c < 16 ^ 8) : Dv N H bs (.str z) := .fl h
theorem Dv.lst (hn : N a) (h : H a = some (.lst xs)) (hl : xs.length ≤ b) (hi : ∀ y ∈ xs, Dv N H bs y) : Dv N H (b :: bs) (.ref a) := .inr ⟨a, rfl, hn, .inl ⟨xs, .inl h, hl, hi⟩⟩
theorem Dv.tup (hn : N a) (h : H a = some (.tup xs)) (hl : xs.length ≤ b) (hi : ∀ y ∈ xs, Dv N H bs y) : Dv N H (b :: bs) (.ref a) := .inr ⟨a, rfl, hn, .inl ⟨xs, .inr h, hl, hi⟩⟩
theorem Dv.dct {kvs : List (Key × V)} (hn : N a) (h : H a = some (.dK kvs)) (hl : kvs.length ≤ 4) (hi : ∀ kv ∈ kvs, FlB (kV kv.1) ∧ FlB kv.2) : Dv N H (b :: bs) (.ref a) := .inr ⟨a, rfl, hn, .inr ⟨kvs, h, hl, hi⟩⟩
/-- other places, another heap, greater bounds -/
theorem Dv.mono : ∀ {bs cs : List Nat} {x : V}, Dv N H bs x → (∀ a o, N a → H a = some o → N' a ∧ H' a = some o) → LeB bs cs → Dv N' H' cs x
  | [], cs, x, h, m, l => .fl h
  | b :: bs, _, x, h, m, .cons lb l => by
    rcases h with h | ⟨a, rfl, hn, ⟨xs, h, hl, hi⟩ | ⟨kvs, h, hl, hi⟩⟩
    · exact .inl h
    · have q : N' a ∧ (H' a = some (.lst xs) ∨ H' a = some (.tup xs)) := h.elim (fun h => ⟨(m a _ hn h).1, .inl (m a _ hn h).2⟩) (fun h => ⟨(m a _ hn h).1, .inr (m a _ hn h).2⟩)
      exact .inr ⟨a, rfl, q.1, .inl ⟨xs, q.2, by omega, fun y hy => Dv.mono (hi y hy) m l⟩⟩
    · exact .inr ⟨a, rfl, (m a _ hn h).1, .inr ⟨kvs, (m a _ hn h).2, hl, hi⟩⟩
theorem Dv.same (h : Dv N H bs x) (s : Same H H') : Dv N H' bs x := h.mono (fun a o n e => ⟨n, s a o e⟩) .refl
theorem Dv.sameB {p : Addr} (h : Dv N H bs x) (s : SameB p H H') (ne : ∀ a, N a → a ≠ p) : Dv N H' bs x := h.mono (fun a o n e => ⟨n, s a o e (ne a n)⟩) .refl
theorem Dv.le (h : Dv N H bs x) (l : LeB bs cs) : Dv N H cs x := h.mono (fun a o n e => ⟨n, e⟩) l
theorem Dv.imp (h : Dv N H bs x) (m : ∀ a o, N a → H a = some o → N' a) : Dv N' H bs x := h.mono (fun a o n e => ⟨m a o n e, e⟩) .refl
theorem Dv.ty {K : Frag} (h : Dv N H bs x) : ∃ T, TyOf K H x (.type T) := by
  have fl : FlB x → ∃ T, TyOf K H x (.type T) := fun f => by
    cases x with
    | non => exact ⟨_, .non⟩
    | bl b => exact ⟨_, .bl b⟩
    | int b => exact ⟨_, .int b⟩
    | str b => exact ⟨_, .str b⟩
    | _ => exact False.elim f
  cases bs with
  | nil => exact fl h
  | cons b bs =>
    rcases h with h | ⟨a, rfl, hn, ⟨xs, h | h, _⟩ | ⟨kvs, h, _⟩⟩
    · exact fl h
    · exact ⟨_, .lst h⟩
    · exact ⟨_, .tup h⟩
    · exact ⟨_, .dK h⟩
theorem Dv.short (h : Dv N H bs x) : ∀ z, x = .str z → z.length ≤ 1000000 := fun z e => by
  subst e
  have f : FlB (.str z) := by
    cases bs with
    | nil => exact h
    | cons b bs =>
      rcases h with h | ⟨a, e, _⟩
      · exact h
      · cases e
  exact Nat.le_trans f.1 (by decide)
/-- no list that is walked over by another frame -/
theorem Dv.nf (h : Dv N H bs x) : ∀ a o u, x = .ref a → H a ≠ some (.frz o u) := fun a o u e z => by
  subst e
  cases bs with
  | nil => exact False.elim h
  | cons b bs =>
    rcases h with h | ⟨a', e, hn, ⟨xs, h | h, _⟩ | ⟨kvs, h, _⟩⟩
    · exact False.elim h
    all_goals (cases e; rw [z] at h; cases h)
theorem Dv.items (h : Dv N H (b :: bs) (.ref a)) (e : H a = some (.lst xs) ∨ H a = some (.tup xs)) : N a ∧ xs.length ≤ b ∧ ∀ y ∈ xs, Dv N H bs y := by
  rcases h with h | ⟨a', e', hn, ⟨ys, h, hl, hi⟩ | ⟨kvs, h, _⟩⟩
  · exact False.elim h
  · cases e'
    have : ys = xs := by
      rcases e with e | e <;> rcases h with h | h <;> (rw [e] at h; cases h; try rfl)
    subst this
    exact ⟨hn, hl, hi⟩
  · cases e'
    rcases e with e | e <;> (rw [e] at h; cases h)
/-! ### its text -/
theorem FlB.ok (h : FlB x) : FlOk x ∧ (flS x).length ≤ 170 := by
  cases x with
  | non => exact ⟨True.intro, by decide +kernel⟩
  | bl c => exact ⟨True.intro, by cases c <;> decide +kernel⟩
  | int i =>
    have hl : i.natAbs.log2 < 1920 := by
      have h' : i.natAbs < 10 ^ 40 := h
      by_cases z : i.natAbs = 0
      · rw [z]; decide
      · have := (Nat.log2_lt z (k := 140)).mpr (Nat.lt_trans h' (by decide))
        omega
    refine ⟨hl, ?_⟩
    have e := int_text_length_le10 (k := 40) (by decide) h
    show (Str.ofString (toString i)).length ≤ 170
    rw [PySem.ofString_length]
    omega
  | str z =>
    have e := StrLaws.reprText_len z h.2
    have h1 := h.1
    refine ⟨?_, ?_⟩
    · show (reprText z).length ≤ 16777216
      omega
    · show (reprText z).length ≤ 170
      omega
  | _ => exact False.elim h
def bound : List Nat → Nat
  | [] => 170
  | b :: bs => b * (bound bs + 2) + 1500
theorem sum_le {B : Nat} : ∀ {ts : List Str}, (∀ t ∈ ts, t.length ≤ B) → (ts.map (·.length)).sum ≤ ts.length * B
  | [], _ => by simp
  | t :: ts, h => by
    have := sum_le fun u hu => h u (List.mem_cons_of_mem t hu)
    have h1 := h t List.mem_cons_self
    rw [List.map_cons, List.sum_cons, List.length_cons, Nat.add_mul]
    omega
theorem bound_ge : ∀ bs : List Nat, 170 ≤ bound bs
  | [] => Nat.le_refl _
  | b :: bs => by
    show 170 ≤ b * (bound bs + 2) + 1500
    omega
theorem app_length (a b : Str) : (a ++ b).length = a.length + b.length := by
  show (a.cps ++ b.cps).size = _
  rw [Array.size_append]
  rfl
theorem Dv.sh : ∀ {bs : List Nat} {x : V}, Dv N H bs x → ShOk H bs.length x ∧ (shS H bs.length x).length ≤ bound bs
  | [], x, h => ⟨h.ok.1, h.ok.2⟩
  | b :: bs, x, h => by
    rcases h with h | ⟨a, rfl, hn, ⟨xs, h, hl, hi⟩ | ⟨kvs, h, hl, hi⟩⟩
    · refine ⟨.inl h.ok.1, ?_⟩
      rw [shS_flat h.ok.1]
      exact Nat.le_trans h.ok.2 (bound_ge _)
    · refine ⟨.inr ⟨a, rfl, .inl ⟨xs, h, fun y hy => (Dv.sh (hi y hy)).1⟩⟩, ?_⟩
      have hs : ((xs.map (shS H bs.length)).map (·.length)).sum ≤ xs.length * bound bs := by
        have := sum_le (B := bound bs) (ts := xs.map (shS H bs.length)) fun t ht => by
          obtain ⟨y, hy, rfl⟩ := List.mem_map.mp ht
          exact (Dv.sh (hi y hy)).2
        rwa [List.length_map] at this
      have e : xs.length * bound bs + 2 * xs.length ≤ b * (bound bs + 2) := by
        have := Nat.mul_le_mul_right (bound bs + 2) hl
        rw [Nat.mul_add] at this
        omega
      show (shS H (bs.length + 1) (.ref a)).length ≤ b * (bound bs + 2) + 1500
      rw [shS_ref]
      rcases h with h | h
      · rw [h]
        dsimp only
        have := listText_len_le (xs.map (shS H bs.length))
        rw [List.length_map] at this
        omega
      · rw [h]
        dsimp only
        have := tupleText_len_le (xs.map (shS H bs.length))
        rw [List.length_map] at this
        omega
    · refine ⟨.inr ⟨a, rfl, .inr ⟨kvs, h, fun kv hk => ⟨(hi kv hk).1.ok.1, (hi kv hk).2.ok.1⟩⟩⟩, ?_⟩
      show (shS H (bs.length + 1) (.ref a)).length ≤ b * (bound bs + 2) + 1500
      rw [shS_ref, h]
      dsimp only
      have := dictText_len_le (kvs.map fun kv => flS (kV kv.1) ++ ": " ++ flS kv.2)
      rw [List.length_map] at this
      have h2 := sum_le (B := 342) (ts := kvs.map fun kv => flS (kV kv.1) ++ ": " ++ flS kv.2) fun t ht => by
        obtain ⟨kv, hk, rfl⟩ := List.mem_map.mp ht
        rw [app_length, app_length]
        have a1 := (hi kv hk).1.ok.2
        have a2 := (hi kv hk).2.ok.2
        have a3 : (": " : Str).length = 2 := by decide +kernel
        omega
      rw [List.length_map] at h2
      omega
/-- it is the same as long as its places are -/
theorem Dv.shSame : ∀ {bs : List Nat} {x : V}, Dv N H bs x → (∀ a o, N a → H a = some o → H' a = some o) → shS H' bs.length x = shS H bs.length x
  | [], x, h, m => rfl
  | b :: bs, x, h, m => by
    rcases h with h | ⟨a, rfl, hn, ⟨xs, h, hl, hi⟩ | ⟨kvs, h, hl, hi⟩⟩
    · rw [shS_flat h.ok.1, shS_flat h.ok.1]
    · show shS H' (bs.length + 1) (.ref a) = shS H (bs.length + 1) (.ref a)
      have e : xs.map (shS H' bs.length) = xs.map (shS H bs.length) := List.map_congr_left fun y hy => Dv.shSame (hi y hy) m
      rw [shS_ref, shS_ref]
      rcases h with h | h <;> (rw [h, m a _ hn h]; dsimp only; rw [e])
    · show shS H' (bs.length + 1) (.ref a) = shS H (bs.length + 1) (.ref a)
      rw [shS_ref, shS_ref, h, m a _ hn h]
end
end L2

set_option Elab.async false
set_option linter.all false
set_option maxRecDepth 100000
namespace L2
open PySem PySem.Spec PySem.W PyProof.Rows
/-- a cut behind a test -/
def tCutT (t : TT) : TT := fun σ H Q => ∃ M : Bool → Hp → Prop, t σ H M ∧ ∀ b H', M b H' → Q b H'
theorem pt_cut {X : Cx} {e : Expr} {t : TT} (h1 : PT X e t) : PT X e (tCutT t) := by
  intro pins s σ H Q I h
  obtain ⟨M, h, k⟩ := h
  exact thn (h1 pins s σ H M I h) fun u s1 ⟨H', I', q⟩ => ⟨H', I', k u H' q⟩
/-- None, or lists or tuples, compared -/
def rNeN (K : Frag) (n : Nat) : R2 := fun x y H Q => (x = .non ∧ y = .non ∧ Q (.bl false) H) ∨ rNeS K n x y H Q
theorem op_neN {X : Cx} {K : Frag} {k : Nat} (n : Nat) (hr : Room k X.A) (hK : X.K = K) (hn : n ≤ 100 := by decide) : OpR X (compareOp .NotEq) (rNeN K n) := by
  intro pins s σ H x y v u Q I rx ry h
  rcases h with ⟨rfl, rfl, q⟩ | h
  · exact op_ne pins s σ H .non .non v u Q I rx ry ⟨rfl, q⟩
  · exact op_neSK n hr hK hn pins s σ H x y v u Q I rx ry h
end L2

set_option Elab.async false
set_option linter.all false
set_option maxRecDepth 100000
/-! More of tuples: the empty one + t, the whole of one by a slice, one turned about. -/
namespace L2
open PySem PySem.Spec PySem.W PyProof.Rows
open AutoSeq1 (wpAny_loadPart')
theorem tuple_addW0 (l b : Addr) (items items2 : Array Value) (n n2 : Nat) (dd dd2 : Option Addr) (sl sl2 : Array (Option Value)) (hc0 : items.isEmpty = true) :
    Meets (Builtin.«tuple.__add__» ⟨[.ref l, .ref b], []⟩) (fun _ R s => s.heap.get? l = some { cls := .type "tuple", dict := dd, data := .seq items n, slots := sl } ∧ s.heap.get? b = some { cls := .type "tuple", dict := dd2, data := .seq items2 n2, slots := sl2 } ∧ R (.ok (.ret (Value.ref b))) s) :=
  .of_wp fun prog w A R s h => by
    obtain ⟨hp, g, d, tk, os⟩ := s
    obtain ⟨hl, hb, h⟩ := h
    have f1 := AutoSeq1.idx_int
    have f2 := AutoSeq1.sub_tuple_tuple
    wp_walk using wpAny_loadPart' hl, wpAny_loadPart' hb, wpAny_load hl, wpAny_load hb
    exact ⟨_, rfl, h⟩
section
variable {prog : Program} {w : World} {A : Around} {E : Value → Shared → Prop} {s : Shared}
theorem cat_tup0 {t b : Addr} {ws : List Value} {Q : Value → Shared → Prop} (ht : IsTup s.heap t #[]) (hb : IsTup s.heap b ws.toArray) (h : Q (.ref b) s) : wpAny (model prog w) A (binaryOp .Add (.ref t) (.ref b)) Q E s := by
  obtain ⟨⟨cls, dd, data, sl⟩, ho, hc, n, hd⟩ := id ht
  obtain ⟨⟨cls2, dd2, data2, sl2⟩, ho2, hc2, n2, hd2⟩ := id hb
  simp only at hc hd hc2 hd2
  subst hc hd hc2 hd2
  exact concat_meets ⟨_, ho, rfl⟩ ⟨_, ho2, rfl⟩ noFill_tuple_add seq_tuple_add PySem.F.slot_tuple_add PySem.F.entry_tuple_add (PySem.F.args_tuple_add_2 _ _)
    (tuple_addW0 t b #[] ws.toArray n n2 dd dd2 sl sl2 rfl) ⟨ho, ho2, h⟩
theorem getItem_tuple_whole {t sl : Addr} {items : Array Value} {vl vu : Value} {lo hi : Option Int} {Q : Value → Shared → Prop} (ht : IsTup s.heap t items) (hs : s.heap.IsSliceOf sl vl vu .none) (pl : IsPart vl lo) (pu : IsPart vu hi)
    (hw : HT.sIx items.size 0 lo = 0 ∧ HT.sIx items.size items.size hi = items.size) (h : Q (.ref t) s) : wpAny (model prog w) A (getItem (.ref t) (.ref sl)) Q E s := by
  obtain ⟨os, hos, hcs, hds⟩ := id hs
  have hTs : s.TypeIs (.ref sl) "slice" := ⟨os, hos, hcs⟩
  unfold getItem
  try with_reducible refine wpAny_holding ?_
  first | refine wpAny_bind (wpAny_pure ?_) | skip
  refine wpAny_bind (wpAny_sequenceKey ht.typeIs (by decide) ?_)
  refine wpAny_bind (wpAny_callSpecial?_slot (name := Str.ofString "__getitem__") ht.typeIs PyProof.Rows.slot_tuple_getitem
    (wpAny_call_entry PyProof.Rows.slot_tuple_getitem ht.typeIs entry_tuple_getitem ?_ (args_tuple_getitem _ _)))
  show wpAny _ _ (Builtin.Tuple.tupleItemsOf (.ref t) >>= _) _ _ s
  refine wpAny_bind (tupleItemsOf_ ht ?_)
  refine wpAny_bind (wpAny_typeOf hTs ?_)
  rw [if_pos (by decide)]
  refine wpAny_bind (HT.sliceApplied_gen hs pl pu ?_)
  show wpAny _ _ (if (((HT.sIx items.size 0 lo : Nat) : Int) == 0 && (1 : Int) == 1 && (HT.sIx items.size items.size hi - HT.sIx items.size 0 lo) == items.size) = true then _ else _) _ _ s
  rw [if_pos (by rw [hw.1, hw.2]; simp)]
  unfold Builtin.Tuple.tupleIsExact
  wp_walk using wpAny_typeOf ht.typeIs
  exact ⟨_, rfl, wpAny_pure h⟩
theorem places_rev (n : Nat) : Builtin.Slice.slicePlaces ((n : Int) - 1) (-1) (-1) = n := by
  unfold Builtin.Slice.slicePlaces
  rw [if_neg (by decide)]
  by_cases h : n = 0
  · subst h
    decide
  · rw [if_pos (by omega)]
    have : ((n : Int) - 1 - -1 - 1) / (- -1) + 1 = n := by
      rw [show (- -1 : Int) = 1 by decide, Int.ediv_one]
      omega
    rw [this]
    exact Int.toNat_natCast n
theorem sliceApplied_rev {sl : Addr} {n : Nat} {u : Tok} {Q : Int × Int × Nat → Shared → Prop} (hs : s.heap.IsSliceOf sl .none .none (.int (-1) u))
    (h : Q ((n : Int) - 1, -1, n) s) : wpAny (model prog w) A (Builtin.Slice.sliceApplied (.ref sl) (pure (n : Int))) Q E s := by
  obtain ⟨os, hos, hcs, hds⟩ := id hs
  unfold Builtin.Slice.sliceApplied Builtin.Slice.sliceFields
  refine wpAny_bind (wpAny_bind (wpAny_field hos hds (x := .none) rfl (wpAny_bind (wpAny_field hos hds (x := .none) rfl (wpAny_bind (wpAny_field hos hds (x := .int (-1) u) rfl (wpAny_pure ?_)))))))
  refine wpAny_bind (HT.slicePart_ (.int (-1) u) ?_)
  show wpAny _ _ (if ((-1 : Int) == 0) = true then _ else _) _ _ s
  rw [if_neg (by decide)]
  refine wpAny_bind (HT.slicePart_ .none (wpAny_bind (HT.slicePart_ .none (wpAny_bind (wpAny_pure ?_)))))
  show wpAny _ _ (pure ((n : Int) - 1, (-1 : Int), Builtin.Slice.slicePlaces ((n : Int) - 1) (-1) (-1))) _ _ s
  rw [places_rev]
  exact wpAny_pure h
theorem fm_congr {α β : Type} {f g : α → Option β} : ∀ (l : List α), (∀ k ∈ l, f k = g k) → l.filterMap f = l.filterMap g
  | [], _ => rfl
  | a :: l, h => by
    rw [List.filterMap_cons, List.filterMap_cons, h a List.mem_cons_self, fm_congr l fun k hk => h k (List.mem_cons_of_mem _ hk)]
theorem pick_rev (xs : Array Value) : ((List.range xs.size).filterMap fun (k : Nat) => xs[((xs.size : Int) - 1 + (k : Int) * (-1)).toNat]?) = xs.toList.reverse := by
  have e : (List.range xs.size).filterMap (fun (k : Nat) => xs[((xs.size : Int) - 1 + (k : Int) * (-1)).toNat]?) = ((List.range xs.size).map fun k => xs.size - 1 - k).filterMap (xs[·]?) := by
    rw [List.filterMap_map]
    refine fm_congr _ fun k hk => ?_
    have := List.mem_range.mp hk
    show _ = xs[xs.size - 1 - k]?
    congr 1
    omega
  rw [e, krv_range, List.filterMap_reverse, krv_all]
theorem getItem_tuple_rev {t sl : Addr} {items : Array Value} {u : Tok} {Q : Value → Shared → Prop} (ht : IsTup s.heap t items) (hs : s.heap.IsSliceOf sl .none .none (.int (-1) u))
    (h : Q (.ref s.heap.objs.size) { s with heap := s.heap.push { cls := .type "tuple", data := .seq items.toList.reverse.toArray } }) (hsz : items.size ≤ sizeLine) : wpAny (model prog w) A (getItem (.ref t) (.ref sl)) Q E s := by
  have htake : sizeOk (.seq items.toList.reverse.toArray) := by
    show items.toList.reverse.toArray.size ≤ sizeLine
    rw [List.size_toArray, List.length_reverse, Array.length_toList]
    exact hsz
  obtain ⟨os, hos, hcs, hds⟩ := id hs
  have hTs : s.TypeIs (.ref sl) "slice" := ⟨os, hos, hcs⟩
  unfold getItem
  try with_reducible refine wpAny_holding ?_
  first | refine wpAny_bind (wpAny_pure ?_) | skip
  refine wpAny_bind (wpAny_sequenceKey ht.typeIs (by decide) ?_)
  refine wpAny_bind (wpAny_callSpecial?_slot (name := Str.ofString "__getitem__") ht.typeIs PyProof.Rows.slot_tuple_getitem
    (wpAny_call_entry PyProof.Rows.slot_tuple_getitem ht.typeIs entry_tuple_getitem ?_ (args_tuple_getitem _ _)))
  show wpAny _ _ (Builtin.Tuple.tupleItemsOf (.ref t) >>= _) _ _ s
  refine wpAny_bind (tupleItemsOf_ ht ?_)
  refine wpAny_bind (wpAny_typeOf hTs ?_)
  rw [if_pos (by decide)]
  refine wpAny_bind (sliceApplied_rev hs ?_)
  show wpAny _ _ (if (((items.size : Int) - 1) == 0 && (-1 : Int) == 1 && items.size == items.size) = true then _ else _) _ _ s
  rw [if_neg (by simp), pick_rev]
  first
    | exact wpAny_bind (m := Builtin.Tuple.tupleExact _) (wpAny_newObj_type (wpAny_pure ⟨_, rfl, wpAny_pure h⟩) htake)
    | exact wpAny_bind (m := Builtin.Tuple.tupleExact _) (wpAny_newObj_type (wpAny_bind (wpAny_pure (wpAny_pure ⟨_, rfl, wpAny_pure h⟩))) htake)
    | exact wpAny_bind (wpAny_bind (m := Builtin.Tuple.tupleExact _) (wpAny_newObj_type (wpAny_pure (wpAny_pure ⟨_, rfl, wpAny_pure h⟩)) htake))
    | exact wpAny_bind (wpAny_bind (m := Builtin.Tuple.tupleExact _) (wpAny_newObj_type (wpAny_pure ⟨_, rfl, wpAny_pure h⟩) htake))
end
/-- t + u, any tuples -/
def rCatU (K : Frag) : R2 := fun x y H Q => ∃ a b xs ys, x = .ref a ∧ y = .ref b ∧ SqT K H a xs ∧ SqT K H b ys ∧ xs.length + ys.length ≤ sizeLine ∧
  (xs = [] → Q (.ref b) H) ∧ (xs ≠ [] → ys = [] → Q (.ref a) H) ∧ (xs ≠ [] → ys ≠ [] → ∀ p, H p = none → Q (.ref p) (upd H p (.tup (xs ++ ys))))
theorem op_catU {X : Cx} : OpR X (binaryOp .Add) (rCatU X.K) := by
  intro pins s σ H x y v u Q I rx ry h
  obtain ⟨a, b, xs, ys, rfl, rfl, ha, hb, hz, q0, q1, q2⟩ := h
  by_cases e : xs = []
  · subst e
    cases rx
    cases ry
    obtain ⟨its, r1, p1, _⟩ := I.tuple ha
    obtain ⟨its2, r2, p2, _⟩ := I.tuple hb
    cases r1
    exact cat_tup0 p1 p2 ⟨.ref b, H, I, rfl, q0 rfl⟩
  · exact op_catT pins s σ H (.ref a) (.ref b) v u Q I rx ry ⟨a, b, xs, ys, rfl, rfl, ha, hb, e, hz, q1 e, q2 e⟩
/-- t[lo:hi], any part -/
def rSlU (K : Frag) : V → Option Int → Option Int → Hp → VK → Prop := fun x lo hi H Q => ∃ a xs, x = .ref a ∧ SqT K H a xs ∧
  ((HT.sIx xs.length 0 lo = 0 ∧ HT.sIx xs.length xs.length hi = xs.length) → Q (.ref a) H) ∧ (¬ (HT.sIx xs.length 0 lo = 0 ∧ HT.sIx xs.length xs.length hi = xs.length) → ∀ p, H p = none → Q (.ref p) (upd H p (.tup (cutV xs lo hi))))
theorem sl_tupU {X : Cx} : SlR X (rSlU X.K) := by
  intro pins s σ H x v vl vu lo hi sl Q I rx hs pl pu h
  obtain ⟨a, xs, rfl, hx, q1, q2⟩ := h
  by_cases hw : HT.sIx xs.length 0 lo = 0 ∧ HT.sIx xs.length xs.length hi = xs.length
  · cases rx
    obtain ⟨its, r, ht, hz⟩ := I.tuple hx
    have hlen : its.toArray.size = xs.length := by rw [List.size_toArray]; exact r.length.symm
    exact ⟨"tuple", _, PyProof.Rows.slot_tuple_getitem.lookup, ht.typeIs, getItem_tuple_whole ht hs pl pu (by rw [hlen]; exact hw) ⟨.ref a, H, I, rfl, q1 hw⟩⟩
  · exact sl_tup pins s σ H (.ref a) v vl vu lo hi sl Q I rx hs pl pu ⟨a, xs, rfl, hx, hw, q2 hw⟩
/-- t[::-1] -/
def tSlR (K : Frag) (te tc : TE) : TE := fun σ H Q => te σ H fun x H1 => tc σ H1 fun y H2 => ∃ a xs, x = .ref a ∧ y = .int (-1) ∧ SqT K H2 a xs ∧ ∀ p, H2 p = none → Q (.ref p) (upd H2 p (.tup xs.reverse))
theorem pe_sliceR {X : Cx} {e c : Expr} {te tc : TE} {p2 pos : Pos} (he : PE X e te) (hc : PE X c tc) : PE X (.Subscript e (.Slice none none (some c) p2) pos) (tSlR X.K te tc) := by
  intro pins s σ H Q I h
  refine Subscript_ (thn (he pins s σ H _ I h) fun v s1 ⟨x, H1, I1, r1, q1⟩ => ?_)
  refine wpAny_Slice ?_
  rw [evalPart_none, evalPart_some]
  refine wpAny_pure (wpAny_pure (thn (hc pins s1 σ H1 _ I1 q1) fun vc s3 ⟨y, H3, I3, r3, q3⟩ => ?_))
  obtain ⟨a, xs, rfl, rfl, hx, q⟩ := q3
  cases r1
  obtain ⟨t, rfl⟩ := r3
  have I4 : Inv X pins σ H3 { s3 with heap := s3.heap.push { cls := .type "slice", data := .fields #[.none, .none, .int (-1) t] } } := I3.kept (t' := s3.toks) fun b ob q => Heap.get?_push_of_some _ q
  obtain ⟨its, r, ht, hz⟩ := I4.tuple hx
  have hlen := r.length
  refine tail_any (ops := [.ref a, .ref s3.heap.objs.size]) (T := "tuple") (id := _) ht.typeIs PyProof.Rows.slot_tuple_getitem.lookup ?_ (by with_unfolding_all rfl)
  refine getItem_tuple_rev ht (Heap.IsSliceOf.new ..) ?_ (by rw [List.size_toArray]; omega)
  exact ⟨.ref _, _, I4.laid (t' := s3.toks) (o := .tup xs.reverse) (fun b ob q => Heap.get?_push_of_some _ q) (Nat.le_refl _) ⟨by rw [List.length_reverse]; exact hz, _, r.reverse, IsTup.new _ _⟩, rfl, q _ (I4.hok.fresh (Nat.le_refl _))⟩
end L2

set_option Elab.async false
set_option linter.all false
set_option maxRecDepth 100000
/-! A list taken apart into names; isinstance with an own class. -/
namespace L2
open PySem PySem.Spec PySem.W PyProof.Rows
section
variable {prog : Program} {w : World} {A : Around} {E : Value → Shared → Prop} {s : Shared}
end
/-- (a, b, ..) = a list of that length -/
def gLst (K : PySem.W.Frag) (n : Nat) (t : TGs) : TG := fun v σ H Q => ∃ a xs, v = .ref a ∧ SqL K H a xs ∧ xs.length = n ∧ t xs σ H Q
end L2

set_option Elab.async false
set_option linter.all false
set_option maxRecDepth 100000
/-! Texts: f-strings, str(x), None in a list of tuples, its place, a tuple with a starred list. -/
namespace L2
open PySem PySem.Spec PySem.W PyProof.Rows
/-! ### f-strings -/
abbrev TJ := St → Hp → (Str → Hp → Prop) → Prop
abbrev TJs := Str → St → Hp → (Str → Hp → Prop) → Prop
def PJ (X : Cx) (e : Expr) (t : TJ) : Prop := ∀ (pins : List (Addr × Obj)) (s : Shared) (σ : St) (H : Hp) (Q : Str → Hp → Prop), Inv X pins σ H s → t σ H Q →
  wpAny (model X.prog X.w) X.A (eval e X.env) (fun v s' => ∃ z u H', v = .str z u ∧ Inv X pins σ H' s' ∧ Q z H') X.xe s
def PJs (X : Cx) (es : List Expr) (t : TJs) : Prop := ∀ (pins : List (Addr × Obj)) (s : Shared) (σ : St) (H : Hp) (acc : Str) (Q : Str → Hp → Prop), Inv X pins σ H s → t acc σ H Q →
  wpAny (model X.prog X.w) X.A (joinParts acc (evalEach es X.env)) (fun v s' => ∃ z u H', v = .str z u ∧ Inv X pins σ H' s' ∧ Q z H') X.xe s
section
variable {X : Cx} {e : Expr} {es : List Expr} {te : TE} {pos : Pos}
def jC (x : Str) : TJ := fun _ H Q => Q x H
/-- {e}, of a text or a whole number -/
def jF (te : TE) : TJ := fun σ H Q => te σ H fun v H1 => (∃ z, v = .str z ∧ z.length ≤ sizeLine ∧ Q z H1) ∨ ∃ i : Int, v = .int i ∧ i.natAbs.log2 < 1920 ∧ Q (toString i) H1
def jNil : TJs := fun acc _ H Q => acc.length ≤ sizeLine ∧ Q acc H
def jCons (t : TJ) (ts : TJs) : TJs := fun acc σ H Q => t σ H fun y H1 => (acc ++ y).length ≤ sizeLine ∧ ts (acc ++ y) σ H1 Q
def tJoined (ts : TJs) : TE := fun σ H Q => ts Str.empty σ H fun z H1 => Q (.str z) H1
/-! ### str(x) -/
end
/-! ### None among tuples -/
def isNonV : V → Bool
  | .non => true
  | _ => false
/-- None or a tuple -/
def TupN (K : Frag) (H : Hp) (x : V) : Prop := x = .non ∨ ∃ a ys, x = .ref a ∧ SqT K H a ys
def isNonU : Value → Bool
  | .none => true
  | _ => false
section
variable {X : Cx} {pins : List (Addr × Obj)} {σ : St} {H : Hp} {s : Shared}
end
def rInN (K : Frag) : R2 := fun x y H Q => ∃ p xs, x = .non ∧ y = .ref p ∧ SqL K H p xs ∧ (∀ v ∈ xs, TupN K H v) ∧ Q (.bl (xs.any isNonV)) H
/-- xs.index(None) -/
def rIndexN (K : Frag) : V → List V → Hp → VK → Prop := fun x xs H Q => ∃ (a : Addr) (ys : List V) (j : Nat), x = V.ref a ∧ xs = [.non] ∧ SqL K H a ys ∧ (∀ v ∈ ys, TupN K H v) ∧ ys[j]? = some .non ∧ (∀ m : Nat, m < j → ys[m]? ≠ some .non) ∧ Q (.int (j : Nat)) H
/-! ### (.., *xs, ..) -/
def tStar (K : Frag) (te : TE) (t : TA) : TA := fun σ H Q => te σ H fun x H1 => ∃ a xs, x = .ref a ∧ SqL K H1 a xs ∧ t σ H1 fun ys H2 => Q (xs ++ ys) H2
end L2

set_option Elab.async false
set_option linter.all false
set_option maxRecDepth 100000
/-! Within a handler: an own error is made; raised from None; passed on. -/
namespace L2
open PySem PySem.Spec PySem.Calls PySem.W PyProof.Rows
/-! ### defs that run while an error is handled -/
structure RoomH (k : Nat) (A : Around) : Prop where
  dp : A.depth + 3 * k + 5 < recursionLimit
  un : A.units + 16 * k + 200 < cLine
  gd : A.guards = some []
structure FnOkH (P : Program) (w : World) (K : Frag) (mg : Str → Option Value) (base : Heap) (k : Nat) (f : Addr) (fd : FuncData) (ps : List Str) (sp : Sp) : Prop where
  len : ∀ vs H Q E, sp vs H Q E → vs.length = ps.length
  run : ∀ (A : Around) (outer : List Env) (s : Shared) (H : Hp) (args : Args) (us : List Value) (vs : List V) (Q : VK) (E : XK), RoomH k A → Env0 P w K mg base A outer s H → BindsTo s fd args (ps.zip us) → Vals vs us → sp vs H Q E →
    codeAny (model P w) A (.call (.ref f) args) (CR CX0 outer P w H s Q E) s
abbrev cxH (P : Program) (w : World) (K : Frag) (mg : Str → Option Value) (base : Heap) (N : List Str) (qual : Str) (scope : Scope) (f : Addr) (cd : Value) (A : Around) (outer : List Env) (s : Shared) (H : Hp) (E : XK) : Cx :=
  { cxOf CX0 P w K mg base N qual scope f cd A outer s H E with calm := false, xe := fun _ _ => False }
section
variable {X : Cx}
/-- an own error class that is made by its name while an error is handled -/
structure CalXH (P : Program) (w : World) (K : Frag) (mg : Str → Option Value) (base : Heap) (k : Nat) (x : Str) (C : Addr) (ps : List Str) (sp : Sp) : Prop where
  ex : ∃ f fd, FnOkH P w K mg base k f fd ps sp ∧ findIn K (.ref C) "__init__" = some (some (.ref f)) ∧ typeIn K (.ref f) = some (.type "function") ∧ Binds K fd ps []
  cls : XCls K C
  nm : mg x = some (.ref C)
  few : ps.length ≤ 1000
end
/-! ### raise e from None, while b is handled -/
def tRaiseN (K : Frag) (b : Addr) (LO : LOT) (te : TE) : TS := fun _ σ H => te σ H fun x H1 => ∃ a C od E Cb odb oTb, x = .ref a ∧ H1 a = some (XO a C od) ∧ XCls K C ∧ LO σ E ∧ H1 b = some (XR b Cb ⟨odb, false⟩ oTb) ∧ b ≠ a ∧ EAll E a C ⟨od, true⟩ H1
/-! ### a clause whose suite may raise -/
def tHAsE (K : Frag) (i : Nat) (C0 : Addr) (LO : LOT) (ts : Addr → LOT → TS) (tr : TH) : TH := fun a C D σ H => XCls K C ∧ ∃ b, mroIn K C (.ref C0) = some b ∧
  if b = true then ts a (fun σ' E => LO (σ'.set i none) E) (D.unset i) (σ.set i (some (.ref a))) H else tr a C D σ H
/-! ### such an error, caught -/
def tRFldC (K : Frag) (ta : TE) (f : Str) : TE := fun σ H Q => ta σ H fun x H1 => ∃ a C d cx oT fs v, x = .ref a ∧ H1 a = some (XR a C ⟨some d, cx⟩ oT) ∧ H1 d = some (XD d fs) ∧ XCls K C ∧ NoAttr K C f ∧ fs.lookup f = some v ∧ Q v H1
/-- of a new error that is raised while another one is handled E is wanted -/
def RaiseY (C : Addr) (fs : List (Str × V)) (H : Hp) (E : XK) : Prop := ∀ a d H', Same H H' → H a = none → H d = none → d ≠ a → H' a = some (XO a C (some d)) → H' d = some (XD d fs) → EAll E a C ⟨some d, true⟩ H'
/-! ### a text n times -/
end L2

set_option Elab.async false
set_option linter.all false
set_option maxRecDepth 100000
/-! lambdas: made, and called -/
namespace L2
open PySem PySem.Spec PyProof.Rows PySem.W
/-- the function that a lambda makes -/
abbrev lamO (q : Str) (params : Arguments) (body : Expr) (scope : Scope) (clos : List (Str × Addr)) (pm : Value) (c' : Addr) (ctv : Value) : Obj :=
  { cls := .type "function", data := .func (kla_fn "<lambda>" q params body scope clos pm (.ref c') ctv) }
/-- a lambda's function stands at f -/
def LamAt (H : Hp) (f : Addr) (q : Str) (params : Arguments) (body : Expr) (scope : Scope) (clos : List (Str × Addr)) : Prop :=
  ∃ pm c' ctv, H f = some (.frz (lamO q params body scope clos pm c' ctv) (.own f)) ∧ H c' = some (.cod q)
def tLam (P : Addr) (q : Str) (params : Arguments) (body : Expr) (scope : Scope) (clos : List (Str × Addr)) : TE := fun _ H Q => H P = some (.tbl (tq q)) ∧ ∀ f H1, Same H H1 → H f = none → LamAt H1 f q params body scope clos → Q (.ref f) H1
section
variable {X : Cx} {params : Arguments} {body : Expr} {scope : Scope} {pos : Pos} {c P : Addr} {q : Str} {clos : List (Str × Addr)}
end
end L2
namespace L2
open PySem PySem.Spec PyProof.Rows PySem.W
/-- the context of a lambda's body that is called within X -/
def cxLam (X : Cx) (q : Str) (scope : Scope) (f c' : Addr) (clos : List (Str × Addr)) (N : List Str) (s : Shared) (H : Hp) : Cx where
  prog := X.prog
  w := X.w
  K := X.K
  mg := X.mg
  base := X.base
  A := X.A.deeper (envX q scope s.heap.objs.size f (.ref c') clos)
  N := N
  s_0 := s
  H_0 := H
  env := envX q scope s.heap.objs.size f (.ref c') clos
  outer := X.stack
  stack := envX q scope s.heap.objs.size f (.ref c') clos :: X.stack
  ex := []
  fn := fun _ => false
  calm := true
  pn := []
  xe := fun _ _ => False
/-- a lambda's names: the parameters, then the free ones -/
structure LamScope (ps fr : List Str) (sc : Scope) : Prop where
  kind : sc.kind = .function
  co : sc.isCoroutine = false
  gen : sc.isGenerator = false
  nd : (ps ++ fr).Nodup
  par : ∀ x ∈ ps, sc.names.lookup x = some .local
  nocell : ∀ y ∈ sc.names, y.2 ≠ .cell
  fre : ∀ x ∈ fr, sc.names.lookup x = some .free
  all : ∀ y ∈ sc.names, y.2 = .free → y.1 ∈ fr
/-- the free names' slots -/
def lamSt (vs : List V) (fj : List Nat) (σ : St) : St := vs.map some ++ fj.map fun j => (σ[j]?).join
/-- where a lambda's free names stand in X -/
def FrOk (X : Cx) (clos : List (Str × Addr)) (fr : List Str) (fj : List Nat) : Prop :=
  fj.length = fr.length ∧ (∀ (n : Nat) (x : Str) (j : Nat), fr[n]? = some x → fj[n]? = some j → X.N[j]? = some x ∧ Vis X.env.scope x ∧ X.env.kindOf x ≠ some .local ∧ ∃ c, clos.lookup x = some c) ∧ ∀ x c, clos.lookup x = some c → X.env.cells.lookup x = some c
section
variable {X : Cx} {params : Arguments} {body : Expr} {scope : Scope} {q : Str} {clos : List (Str × Addr)} {f : Addr} {ps fr : List Str} {fj : List Nat} {pins : List (Addr × Obj)} {σ : St} {H : Hp} {s : Shared} {k : Nat} {us : List Value} {vs : List V} {Q : VK} {t : TE}
end
end L2

set_option Elab.async false
set_option linter.all false
set_option maxRecDepth 100000
set_option maxHeartbeats 4000000
/-! min, max with a key and a default -/
namespace L2
open PySem PySem.Spec PyProof.Rows PySem.W
/-- the key function tells kf i of the i-th item, and changes nothing -/
def KeyT (X : Cx) (σ : St) (H : Hp) (f : Value) (vs : List Value) (kf : Nat → Int) : Prop :=
  ∀ (pins : List (Addr × Obj)) (i : Nat) (v : Value) (s : Shared), vs[i]? = some v → Inv X pins σ H s → wpAny (model X.prog X.w) X.A.in1 (call f [v]) (fun u s' => (∃ t, u = .int (kf i) t) ∧ Inv X pins σ H s') (fun _ _ => False) s

section
variable {X : Cx} {pins : List (Addr × Obj)} {σ : St} {H : Hp} {q : Addr} {vs : List Value} {kf : Nat → Int} {l It S : Addr} {R : Result → Shared → Prop} {dk : List (Str × Value)}
end

section
variable {X : Cx} {pins : List (Addr × Obj)} {σ : St} {H : Hp} {q : Addr} {vs : List Value} {kf : Nat → Int} {l It S : Addr} {R : Result → Shared → Prop} {dk : List (Str × Value)}
end
end L2

set_option Elab.async false
set_option linter.all false
set_option maxRecDepth 100000
set_option maxHeartbeats 400000
/-! min, max, sorted by a lambda -/
namespace L2
open PySem PySem.Spec PyProof.Rows PySem.W
abbrev Cx.in1 (X : Cx) : Cx := { X with A := X.A.in1 }
section
variable {X : Cx} {pins : List (Addr × Obj)} {σ : St} {H : Hp} {s : Shared}
end
/-- what a lambda of one parameter is, called within X -/
structure Lam1 (X : Cx) (q : Str) (params : Arguments) (body : Expr) (scope : Scope) (clos : List (Str × Addr)) (fj : List Nat) (tb : TE) : Prop where
  ex : ∃ (x : Str) (fr : List Str), LamScope [x] fr scope ∧ FrOk X clos fr fj ∧ (∀ (f c' : Addr) (s : Shared) (H : Hp), PE (cxLam X q scope f c' clos ([x] ++ fr) s H) body tb) ∧
    ∀ (u pm ctv : Value) (c' : Addr), bindArgs (kla_fn "<lambda>" q params body scope clos pm (.ref c') ctv) ⟨[u], []⟩ = pure ([x].zip [u])
/-- NAME(e, key=lambda .., default=None): big: the greatest, else the least, the first of several -/
def KeyQ (big : Bool) (fj : List Nat) (tb : TE) (σ : St) (a : Addr) (xs : List V) (H3 : Hp) (Q : VK) : Prop := H3 a = some (.lst xs) ∧ ∃ kf : Nat → Int, (∀ H4, SameB a H3 H4 → ∀ (i : Nat) (z : V), xs[i]? = some z → tb (lamSt [z] fj σ) H4 fun v H' => H' = H4 ∧ v = .int (kf i)) ∧ (xs = [] → Q .non H3) ∧
    ∀ (i : Nat) (z : V), xs[i]? = some z → (∀ j, j < xs.length → if big = true then kf j ≤ kf i ∧ (j < i → kf j < kf i) else kf i ≤ kf j ∧ (j < i → kf i < kf j)) → Q z H3
def tKey (big : Bool) (P : Addr) (q : Str) (params : Arguments) (body : Expr) (scope : Scope) (clos : List (Str × Addr)) (fj : List Nat) (tb : TE) (te : TE) : TE := fun σ H Q => te σ H fun x H1 => tLam P q params body scope clos σ H1 fun _ H3 => ∃ a xs, x = .ref a ∧ KeyQ big fj tb σ a xs H3 Q
def is1 (P : V → Prop) : List V → Prop
  | [x] => P x
  | _ => False
def is2 (P : V → V → Prop) : List V → Prop
  | [x, y] => P x y
  | _ => False
section
variable {X : Cx} {q : Str} {params : Arguments} {body : Expr} {scope : Scope} {clos : List (Str × Addr)} {fj : List Nat} {tb te : TE} {k : Nat} {c P : Addr} {e : Expr} {p pos kp1 kp2 lpos dpos : Pos} {dj : Nat}
end
end L2

set_option Elab.async false
set_option linter.all false
set_option maxRecDepth 100000
set_option maxHeartbeats 4000000
/-! the law's call where tables of codes may grow -/
namespace L2
open PySem PySem.Spec PyProof.Rows PySem.W
/-- the tables stand -/
def TbL (H : Hp) (tabs : List (Addr × Str)) : Prop := ∀ p ∈ tabs, H p.1 = some (.tbl (tq p.2))
/-- a def that makes a lambda: its code has the table P -/
structure FunT (K : PySem.W.Frag) (x qual : Str) (st : Stmt) (f : Addr) (fd : FuncData) (P : Addr) : Prop where
  fn : Fun K x qual st f fd
  tb : ∃ c, fd.code = .ref c ∧ codeHdIn K c P = true
section
variable {P : Program} {w : World} {K : PySem.W.Frag} {mg : Str → Option Value} {base : Heap} {x qual : Str} {st : Stmt} {f tb : Addr} {fd : FuncData} {N ps : List Str} {k : Nat} {sp : Sp}
end
/-- a code object's table -/
def tabP (o : Obj) : Option Addr := match o.data with
  | .fields vs => (match (vs[11]? : Option Value) with
    | some (.ref P) => some P
    | _ => none)
  | _ => none
/-- the law's promise -/
def sp_lawT (K : PySem.W.Frag) (tabs : List (Addr × Str)) : Sp := fun vs H Q _ => ∃ (a : Addr) (ns : List Int), vs = [.ref a] ∧ SqL K H a (ns.map V.int) ∧ (∀ ys, H a ≠ some (.lst ys)) ∧ ns.length ≤ 63 ∧ TbL H tabs ∧ ∀ H', Q (.bl true) H'
end L2

set_option Elab.async false
set_option linter.all false
set_option maxRecDepth 100000
/-! comprehensions over enumerate, tuples compared -/
namespace L2
open PySem PySem.Spec PyProof.Rows PySem.W
end L2

set_option maxRecDepth 100000
namespace PySem

/-! ### places of a set's table rise -/
def Rise (xs : List Nat) : Prop := xs.Pairwise (· < ·)

/-- what is kept of a table -/
def TbOk (w : World) (t : SetTable) : Prop := Rise t.place.toList ∧ t.led = !(w.params.followText "set-order")

end PySem

set_option maxRecDepth 100000
namespace PySem
open Sem (wp)

/-! ### sets of whole numbers, with their tables -/
def keyN (e : Int × Value) : Int := match e.2 with | .int n _ => n | _ => 0

structure SetL (P : Program) (w : World) (h : Heap) (a : Addr) (es : Array (Int × Value)) (ep : Nat) (t : SetTable) : Prop where
  at_ : h.get? a = some { cls := .type "set", data := .set es ep t }
  num : ∀ e ∈ es.toList, ∃ n u, e = ((intKind P w).hash n, Value.int n u)
  fit : t.fits es.size = true
  tab : TbOk w t
  few : es.size < scanBound

/-- the set at a holds just these numbers, each once -/
def SetI (P : Program) (w : World) (h : Heap) (a : Addr) (ns : List Int) : Prop := ∃ es ep t, SetL P w h a es ep t ∧ (es.toList.map keyN).Perm ns

section
variable {P : Program} {w : World} {A : Around} {E : Value → Shared → Prop} {s : Shared} {a : Addr} {es : Array (Int × Value)} {ep : Nat} {t : SetTable} {ns : List Int} {h h' : Heap}
end
end PySem

set_option maxRecDepth 100000
namespace PySem
open Sem (wp)

namespace F
end F

section
variable {P : Program} {w : World} {A : Around} {E : Value → Shared → Prop} {s : Shared} {a : Addr} {es : Array (Int × Value)} {ep : Nat} {t : SetTable}

/-- which of the three ways a walk goes: by text, drawn (the places lie in a tuple at p), by places -/
inductive Way (w : World) (a p : Addr) (es : Array (Int × Value)) (ep : Nat) (t : SetTable) (h : Heap) (i : Nat) : Value → List (Int × Value) → Prop
  | text (u : Tok) (e : w.params.followText "set-order" = true) : Way w a p es ep t h i (.int 0 u) (pickOrder (w.params.setOrder a ep) es).toList
  | drawn (ps : List Nat) (e : w.params.followText "set-order" = false) (d : (!t.plain && decide (es.size > 1)) = true)
      (tp : h.get? p = some { cls := .type "tuple", data := .seq (ps.map fun (i : Nat) => rawInt i).toArray }) (ord : List (Int × Value)) (ho : ord.length = ps.length)
      (hg : ∀ k j : Nat, ps[k]? = some j → es[j]? = ord[k]?) : Way w a p es ep t h i (.ref p) ord
  | plain (slot : Nat) (u : Tok) (e : w.params.followText "set-order" = false) (d : (!t.plain && decide (es.size > 1)) = false) (b : SetTable.below t.place slot = i) : Way w a p es ep t h i (.int slot u) es.toList

/-- an iterator over the set at a -/
def SetIt (w : World) (h : Heap) (I a p : Addr) (es : Array (Int × Value)) (ep : Nat) (t : SetTable) (ord : List (Int × Value)) (i : Nat) : Prop :=
  ∃ first u1 u2 u3, Way w a p es ep t h i first ord ∧ h.get? I = some { cls := .type "set_iterator", data := .fields #[first, .int i u1, .ref a, .int es.size u2, .int ep u3] }

end
end PySem

set_option maxRecDepth 100000
namespace PySem
open Sem (wp)
namespace F
end F
section
variable {P : Program} {w : World} {A : Around} {E : Value → Shared → Prop} {s : Shared} {I a p : Addr} {es : Array (Int × Value)} {ep : Nat} {t : SetTable} {ord : List (Int × Value)} {i : Nat}

/-- the state of a walk -/
def SetSt (P : Program) (w : World) (I a p : Addr) (es : Array (Int × Value)) (ep : Nat) (t : SetTable) (ord : List (Int × Value)) (i : Nat) (h : Heap) : Prop :=
  SetL P w h a es ep t ∧ SetIt w h I a p es ep t ord i
def AtO (ord : List (Int × Value)) (i : Nat) (v : Value) : Prop := (ord[i]?).map (·.2) = some v

end
end PySem

set_option maxRecDepth 100000
namespace PySem
open Sem (wp) 
open PyProof.Rows
section
variable {P : Program} {w : World} {A : Around} {E : Value → Shared → Prop} {s : Shared} {a : Addr} {ns : List Int}

end
end PySem

namespace L2
open PySem PySem.Spec PyProof.Rows
section
variable {X : Cx} {pins : List (Addr × Obj)} {σ : St} {H : Hp} {s : Shared}
/-- a set of whole numbers -/
def SetO (P : Program) (w : World) (a : Addr) (ns : List Int) : HO := .ext fun h => SetI P w h a ns
def rSortedT (X : Cx) : List V → Hp → VK → Prop := fun vs H Q => ∃ (a : Addr) (ns : List Int), vs = [V.ref a] ∧ H a = some (SetO X.prog X.w a ns) ∧ X.calm = true ∧ ns.length < 64 ∧
  ∀ (ns' : List Int) (p : Addr), ns'.Perm ns → ns'.Pairwise (· ≤ ·) → H p = none → Q (.ref p) (upd H p (.lst (ns'.map V.int)))
end
end L2

set_option maxRecDepth 100000
namespace L2
open PySem PySem.Spec PyProof.Rows
/-- what a turn of a comprehension with one clause does -/
def cpTurn (e target iter : Expr) (ifs : List Expr) (emit : Sem Unit) (it acc : Value) (env : Env) : Prop :=
  compTurn e 0 it acc env = (do
      standAt iter.pos
      match ← pyNext it with
      | none => pure (.done .next)
      | some v =>
        letOwnedTupleGo target it v
        assign target env v
        let mut ok := true
        for c in ifs do
          if ok then ok ← isTrue c env (eval c env)
        if ok then emit
        again (.compLoop e 0 it acc env))
/-- .. and how its code is run -/
def cpDen (prog : Program) (w : World) (A : Around) (e : Expr) : Prop := ∀ it acc env, A.under (.compLoop e 0 it acc env) = A ∧
  (model prog w).den (.compLoop e 0 it acc env) = (compTurn e 0 it acc env).onRaise (fun x => do noteFrame x env; theTreesLotGoes x) ∧ (Code.compLoop e 0 it acc env).quiet = true
section
variable {X : Cx}
/-- what is emitted into the new thing -/
def PEm (X : Cx) (emit : Env → Sem Unit) (t : (Hp → Prop) → St → Hp → Prop) : Prop :=
  ∀ (pins : List (Addr × Obj)) (s : Shared) (σ : St) (H : Hp) (Nx : Hp → Prop), Inv X pins σ H s → t Nx σ H → wpAny (model X.prog X.w) X.A (emit X.env) (fun _ s' => ∃ H', Inv X pins σ H' s' ∧ Nx H') X.xe s
def tCp (o0 : Addr → HO) (wi : TI) (g : TG) (tt : TT) (te : Addr → (Hp → Prop) → St → Hp → Prop) (vs : List Nat) : TE := fun σ H Q => wi σ H fun J H1 => ∀ D, H1 D = none → ∃ W : Nat → Nat → Hp → Prop, (∃ m, W 0 m (upd H1 D (o0 D))) ∧ ∀ i m H, W i m H →
  (J.stop i H ∧ Q (.ref D) H) ∨ (J.go i H ∧ ∃ Nx : Hp → Prop, (∀ H', Nx H' → ∃ m', m' < m ∧ W (i + 1) m' H') ∧ ∀ x H', J.yld i H x H' → g x (wipe σ vs) H' fun σ2 H2 => wipe σ2 vs = wipe σ vs ∧ tt σ2 H2 fun b H3 =>
    if b = true then te D Nx σ2 H3 else Nx H3)
/-! ### set comprehensions -/
def insI (ns : List Int) (n : Int) : List Int := if n ∈ ns then ns else ns ++ [n]
def tSadd (X : Cx) (te : TE) (D : Addr) (Nx : Hp → Prop) : St → Hp → Prop := fun σ H => te σ H fun y H4 => ∃ ns n, y = V.int n ∧ H4 D = some (SetO X.prog X.w D ns) ∧ ns.length < 1000 ∧ Nx (upd H4 D (SetO X.prog X.w D (insI ns n)))
/-! ### dict comprehensions -/
def tDput (tk tv : TE) (D : Addr) (Nx : Hp → Prop) : St → Hp → Prop := fun σ H => tk σ H fun y H1 => tv σ H1 fun v H4 => ∃ kvs k, y = kV k ∧ H4 D = some (.dK kvs) ∧ kvs.length < sizeLine ∧ Nx (upd H4 D (.dK (putK kvs k v)))
end
end L2

set_option maxRecDepth 100000
set_option maxHeartbeats 3200000
namespace PySem
open PyProof.Rows
section
variable {P : Program} {w : World} {A : Around} {E : Value → Shared → Prop} {s : Shared}
/-- the numbers of a list, each once -/
def distI (ns : List Int) : List Int := ns.foldl (fun acc n => if n ∈ acc then acc else acc ++ [n]) []
section
variable {R : Result → Shared → Prop} {I : Addr} {fp wr : List Addr} {G : Array GenState → Array GenState → Prop} {n : Nat} {PP : Nat → Value → Prop} {St : Nat → Shared → Prop}
end
end

section
variable {P : Program} {w : World} {A : Around} {E : Value → Shared → Prop} {s : Shared}
abbrev freshSet (w : World) : Obj := { cls := .type "set", dict := none, data := .set #[] 0 (.fresh 0 0 (!(w.params.followText "set-order"))) }
end
end PySem

set_option maxRecDepth 100000
namespace L2
open PySem PySem.Spec PyProof.Rows
section
variable {X : Cx}
/-- set(xs), a list of whole numbers -/
def rSetN (X : Cx) : List V → Hp → VK → Prop := fun vs H Q => ∃ (a : Addr) (ns : List Int), vs = [V.ref a] ∧ H a = some (.lst (ns.map V.int)) ∧ X.calm = true ∧ ns.length < 1000 ∧
  ∀ p : Addr, H p = none → Q (.ref p) (upd H p (SetO X.prog X.w p (distI ns)))
end
end L2

set_option maxRecDepth 100000
set_option maxHeartbeats 400000
/-! sorted(xs, key=lambda ..) -/
namespace PyProof.Rows
open PySem
section
variable {prog : Program} {w : World} {A : Around} {E : Value → Shared → Prop} {s : Shared} {a kS : Addr} {vs : List Value} {kz : List Int} {keys : Array Value} {e e1 : Nat} {P : PySem.Fin → Shared → Prop}
end
end PyProof.Rows

namespace L2
open PySem PySem.Spec PyProof.Rows PySem.W
section
variable {X : Cx} {pins : List (Addr × Obj)} {σ : St} {H : Hp} {s : Shared} {q a : Addr} {vs : List Value} {kf : Nat → Int} {P : PySem.Fin → Shared → Prop} {E : Value → Shared → Prop}
end
end L2

set_option maxRecDepth 100000
set_option maxHeartbeats 400000
namespace L2
open PySem PySem.Spec PyProof.Rows PySem.W
/-! ### the stable sort by a number, as a function -/
def insB {α : Type} (p : Int × α) : List (Int × α) → List (Int × α)
  | [] => [p]
  | x :: l => if p.1 ≤ x.1 then p :: x :: l else x :: insB p l
def srtB {α : Type} : List (Int × α) → List (Int × α)
  | [] => []
  | p :: l => insB p (srtB l)
section
variable {α : Type}
/-- the things of xs by the numbers kf tells of their places -/
def sortK (kf : Nat → Int) (xs : List α) : List α := (srtB (((List.range xs.length).map kf).zip xs)).map Prod.snd
end
/-! ### sorted(e, key=lambda ..) -/
def SortQ (fj : List Nat) (tb : TE) (σ : St) (a : Addr) (xs : List V) (H3 : Hp) (Q : VK) : Prop := (H3 a = some (.tup xs) ∨ H3 a = some (.lst xs)) ∧ ∃ kf : Nat → Int, (∀ (i : Nat) (z : V), xs[i]? = some z → tb (lamSt [z] fj σ) H3 fun v H' => H' = H3 ∧ v = .int (kf i)) ∧
    ∀ D : Addr, H3 D = none → Q (.ref D) (upd H3 D (.lst (sortK kf xs)))
def tSortK (P : Addr) (q : Str) (params : Arguments) (body : Expr) (scope : Scope) (clos : List (Str × Addr)) (fj : List Nat) (tb : TE) (te : TE) : TE := fun σ H Q => te σ H fun x H1 => tLam P q params body scope clos σ H1 fun _ H3 => ∃ a xs, x = .ref a ∧ SortQ fj tb σ a xs H3 Q
section
variable {X : Cx} {q : Str} {params : Arguments} {body : Expr} {scope : Scope} {clos : List (Str × Addr)} {fj : List Nat} {tb te : TE} {k : Nat} {c P : Addr} {e : Expr} {p pos kp1 lpos : Pos}
end
end L2

set_option maxRecDepth 100000
namespace L2
open PySem PySem.Spec PyProof.Rows PySem.W
section
variable {X : Cx} {pos : Pos}
/-- a = b = c = value -/
def tAsg3 (te : TE) (g1 g2 g3 : TG) : TS := fun D σ H => te σ H fun x H1 => g1 x σ H1 fun σ1 H2 => g2 x σ1 H2 fun σ2 H3 => g3 x σ2 H3 D.nx
end
/-! comprehensions of sets and dicts, over lists and tuples -/
end L2

set_option Elab.async false
set_option linter.all false
set_option maxRecDepth 100000
namespace L2
open PySem PySem.Spec PySem.W PyProof.Rows
section
variable {X : Cx}
/-- dicts of nothing, or of one flat thing, that are alike -/
def rEq1 : R2 := fun x y H Q => ∃ a b kvs, x = .ref a ∧ y = .ref b ∧ H a = some (.dK kvs) ∧ H b = some (.dK kvs) ∧ (kvs = [] ∨ ∃ k v, kvs = [(k, v)] ∧ flatV v = true ∧ eqV v v = true) ∧ Q (.bl true) H
def rNe1 : R2 := fun x y H Q => ∃ a b kvs, x = .ref a ∧ y = .ref b ∧ H a = some (.dK kvs) ∧ H b = some (.dK kvs) ∧ (kvs = [] ∨ ∃ k v, kvs = [(k, v)] ∧ flatV v = true ∧ eqV v v = true) ∧ Q (.bl false) H
/-- // by a positive divisor of up to two hundred bits -/
def CDivB (i j : Int) : Prop := 0 < j ∧ j < 1000000000000000000000000000000000000000000000000000000000000
end
end L2

set_option Elab.async false
set_option linter.all false
set_option maxRecDepth 100000
/-! Classes under one another: Base.m(self, ..) that may raise; a value of one of several classes. -/
namespace L2
open PySem PySem.Spec PySem.W PyProof.Rows
/-- a class's function, by the class's name -/
structure CalC (P : Program) (w : World) (K : Frag) (mg : Str → Option Value) (base : Heap) (k : Nat) (x : Str) (C : Addr) (m : Str) (ps : List Str) (sp : Sp) : Prop where
  ex : ∃ f fd, FnOk P w K mg base (CXF P w) k f fd ps sp ∧ ClsM K C m f ∧ Binds K fd ps []
  nm : mg x = some (.ref C)
section
variable {X : Cx} {k j : Nat} {C : Addr} {ps : List Str} {sp : Sp} {LO : LOT} {x m : Str} {p pos apos : Pos} {e : Expr} {es : List Expr} {t : TA}
/-- d.clear() -/
def rDClear : V → List V → Hp → VK → Prop := fun x vs H Q => ∃ l kvs, x = .ref l ∧ vs = [] ∧ H l = some (.dK kvs) ∧ Q .non (upd H l (.dK []))
end
end L2

set_option Elab.async false
set_option linter.all false
set_option maxRecDepth 100000
namespace L2
open PySem PySem.Spec PySem.W PyProof.Rows
end L2

set_option Elab.async false
set_option linter.all false
set_option maxRecDepth 100000
set_option maxHeartbeats 4000000
namespace K05
open PySem L2
def top (i : Nat) : Stmt := PySem.Challenge.pw_failslack_k05_two_faults_at_once.main.body.getD i (.Pass ⟨0, 0, 0, 0⟩)
def LET : Str := "abcdefghijklmnopqrstuvwxyz"
def FIG : Str := "0123456789"
/-- the line of a class -/
def excIs (C : Addr) (bm : List Value) (o : Obj) : Bool := match o with
  | ⟨.type "type", _, .cls cd, _⟩ => cd.mro == .ref C :: bm
  | _ => false
def XM (K : PySem.W.Frag) (C : Addr) (bm : List Value) : Prop := ∃ o, K.lookup C = some o ∧ excIs C bm o = true
theorem XM.cls {K : PySem.W.Frag} {C : Addr} {bm : List Value} (x : XM K C bm) : ∃ cd, PySem.W.clsIn K C = some cd ∧ cd.mro = .ref C :: bm ∧ PySem.W.typeIn K (.ref C) = some (.type "type") := by
  obtain ⟨o, lk, ok⟩ := x
  unfold excIs at ok
  split at ok
  · rename_i dd cd sl
    refine ⟨cd, by unfold PySem.W.clsIn; rw [lk], beq_iff_eq.mp ok, ?_⟩
    show (K.lookup C).map (·.cls) = _
    rw [lk]
    rfl
  · cases ok
theorem XM.mro {K : PySem.W.Frag} {C : Addr} {bm : List Value} (x : XM K C bm) (v : Value) : PySem.W.mroIn K C v = some ((Value.ref C :: bm).contains v) := by
  obtain ⟨cd, hc, hm, _⟩ := x.cls
  unfold PySem.W.mroIn
  rw [hc, Option.bind_some, hm]
  rfl
theorem kit_x {K : PySem.W.Frag} {C D : Addr} {bm bn : List Value} (x : XM K C bm) (y : XM K D bn) : PySem.W.kitOne K (.ref C) (.ref D) = some (decide (C = D) || bm.contains (.ref D)) := by
  obtain ⟨cd, hc, hm, ht⟩ := y.cls
  unfold PySem.W.kitOne
  by_cases e : C = D
  · rw [if_pos (beq_iff_eq.mpr (congrArg Value.ref e)), decide_eq_true e]
    rfl
  · have ne : (Value.ref C == Value.ref D) = false := beq_eq_false_iff_ne.mpr fun q => e (Value.ref.inj q)
    rw [if_neg (by rw [ne]; exact Bool.false_ne_true), decide_eq_false e]
    unfold PySem.W.kitCls
    dsimp only
    rw [if_pos (by rw [hc, ht]; rfl)]
    show PySem.W.mroIn K C (.ref D) = _
    rw [x.mro, List.contains_cons]
    have ne2 : (Value.ref D == Value.ref C) = false := beq_eq_false_iff_ne.mpr fun q => e (Value.ref.inj q).symm
    rw [ne2]
abbrev V4 : List Value := [.type "ValueError", .type "Exception", .type "BaseException", .type "object"]
def sp_slack (K : PySem.W.Frag) : Sp := fun vs H Q _ => ∃ a C od y, vs = [.ref a, y] ∧ H a = some (XO a C od) ∧ XCls K C ∧ Q .non H
def sp_two (C : Addr) (n1 n2 : Str) : Sp := fun vs H Q _ => ∃ a x y, vs = [.ref a, x, y] ∧ H a = some (XO a C none) ∧ ∀ d H', SameB a H H' → H d = none → H' a = some (XO a C (some d)) → H' d = some (XD d [(n1, x), (n2, y)]) → Q .non H'
def sp_one (C : Addr) (n1 : Str) : Sp := fun vs H Q _ => ∃ a x, vs = [.ref a, x] ∧ H a = some (XO a C none) ∧ ∀ d H', SameB a H H' → H d = none → H' a = some (XO a C (some d)) → H' d = some (XD d [(n1, x)]) → Q .non H'
def sp_zero (C : Addr) : Sp := fun vs H Q _ => ∃ a, vs = [.ref a] ∧ H a = some (XO a C none) ∧ Q .non H
theorem putF2 {n1 n2 : Str} (h : ¬ n1 = n2) (x y : V) : putF n2 y [(n1, x)] = [(n1, x), (n2, y)] := by
  show (if n1 = n2 then [(n1, y)] else (n1, x) :: putF n2 y []) = _
  rw [if_neg h]
  rfl

structure Ad where
  SlackError : Addr
  BadPieces : Addr
  NoPiece : Addr
  Pieces : Addr
def tabsOf (D : Ad) : List (Addr × Str) := []
def Tb (H : Hp) (D : Ad) : Prop := TbL H (tabsOf D)
structure Txt (K : PySem.W.Frag) (mg : Str → Option Value) (D : Ad) : Prop where
  b_ValueError : mg "ValueError" = none
  b_all : mg "all" = none
  b_bool : mg "bool" = none
  b_enumerate : mg "enumerate" = none
  b_int : mg "int" = none
  b_isinstance : mg "isinstance" = none
  b_len : mg "len" = none
  b_list : mg "list" = none
  b_max : mg "max" = none
  b_min : mg "min" = none
  b_range : mg "range" = none
  b_repr : mg "repr" = none
  b_str : mg "str" = none
  b_tuple : mg "tuple" = none
  g_LETTERS : GC mg "LETTERS" (.str LET)
  g_FIGURES : GC mg "FIGURES" (.str FIG)
  g_MOST_SIGNS : GC mg "MOST_SIGNS" (.int 8)
  g_MOST_PIECES : GC mg "MOST_PIECES" (.int 30)
  g_LAST_TURN : GC mg "LAST_TURN" (.int 199)
  g_MOST_LENGTH : GC mg "MOST_LENGTH" (.int 12)
  h_SlackError : mg "SlackError" = some (.ref D.SlackError)
  h_BadPieces : mg "BadPieces" = some (.ref D.BadPieces)
  h_Pieces : mg "Pieces" = some (.ref D.Pieces)
  x_SlackError : XCls K D.SlackError
  m_SlackError : XM K D.SlackError (V4)
  x_BadPieces : XCls K D.BadPieces
  m_BadPieces : XM K D.BadPieces (.ref D.SlackError :: (V4))
  n_BadPieces_at : NoAttr K D.BadPieces "at"
  n_BadPieces_why : NoAttr K D.BadPieces "why"
  cl_Pieces : Cls K D.Pieces
  n_Pieces_held : NoAttr K D.Pieces "held"
  nd : [D.SlackError, D.BadPieces].Nodup
theorem Txt.g_SlackError {K : PySem.W.Frag} {mg : Str → Option Value} {D : Ad} (T : Txt K mg D) : GC mg "SlackError" (.ref D.SlackError) := ⟨_, T.h_SlackError, rfl⟩
end K05

set_option Elab.async false
set_option linter.all false
set_option maxRecDepth 100000
set_option maxHeartbeats 4000000
namespace K05
open PySem L2
section
variable {P : Program} {w : World} {K : PySem.W.Frag} {mg : Str → Option Value} {base : Heap}
abbrev s_SlackError___init__ : Stmt := inClass (top 2) 0
theorem sc_SlackError___init__ : FnScope ["self", "text"] ["self", "text"] (defScope s_SlackError___init__) := ⟨rfl, rfl, rfl, by decide +kernel, rfl, by decide +kernel, by decide +kernel⟩
theorem ok_SlackError {f : Addr} {fd : FuncData} (F : Fun K "__init__" "SlackError.__init__" s_SlackError___init__ f fd) (hv : mg "ValueError" = none) : FnOk P w K mg base CX0 1 f fd ["self", "text"] (sp_slack K) := by
  refine F.ok sc_SlackError___init__ (fun vs H Q E h => ?_) (fun cdv A outer s H vs Q E hr h => ?_)
  · obtain ⟨a, C, od, y, rfl, _⟩ := h
    rfl
  · obtain ⟨a, C, od, y, rfl, ea, xc, k⟩ := h
    refine ⟨_, pss_one (ps_expr (pe_vinit hv (pa_c (pv 0) (pa_c (pv 1) pa_nil)))), ?_⟩
    exact ⟨_, rfl, _, rfl, a, C, od, y, rfl, ea, xc, k⟩
abbrev s_BadPieces___init__ : Stmt := inClass (top 3) 0
theorem sc_BadPieces___init__ : FnScope ["self", "at", "why"] ["self", "at", "why"] (defScope s_BadPieces___init__) := ⟨rfl, rfl, rfl, by decide +kernel, rfl, by decide +kernel, by decide +kernel⟩
theorem ok_BadPieces {f S C fS : Addr} {fd fdS : FuncData} (F : Fun K "__init__" "BadPieces.__init__" s_BadPieces___init__ f fd) (hS : mg "SlackError" = some (.ref S)) (xc : XCls K C) (n1 : NoAttr K C "at") (n2 : NoAttr K C "why") (cm : ClsM K S "__init__" fS) (GS : FnOk P w K mg base CX0 1 fS fdS ["self", "text"] (sp_slack K)) (bS : Binds K fdS ["self", "text"] []) :
    FnOk P w K mg base CX0 2 f fd ["self", "at", "why"] (sp_two C "at" "why") := by
  refine F.ok sc_BadPieces___init__ (fun vs H Q E h => ?_) (fun cdv A outer s H vs Q E hr h => ?_)
  · obtain ⟨a, x, y, rfl, _⟩ := h
    rfl
  · obtain ⟨a, x, y, rfl, ea, k⟩ := h
    refine ⟨_, pss_cons (ps_expr (pe_clsm hS cm GS bS hr (pa_c (pv 0) (pa_c pe_str pa_nil)))) (pss_cons (ps_xfld0 (pv 0) (pv 1) rfl) (pss_one (ps_xfld1 (pv 0) (pv 2) rfl))), ?_⟩
    refine ⟨_, rfl, a, C, none, _, rfl, ea, xc, ?_⟩
    refine ⟨_, rfl, _, rfl, a, C, rfl, ea, xc, n1, fun d hd => ?_⟩
    have ne : d ≠ a := (ne_of_none ea hd).symm
    refine ⟨_, rfl, _, rfl, a, C, d, _, rfl, upd_same, (by rw [upd_ne ne]; exact upd_same), ne, xc, n2, (by show 1 < 1000; decide), ?_⟩
    rw [putF2 (by decide +kernel)]
    refine k d _ (fun b o e nb => ?_) hd (by rw [upd_ne ne.symm]; exact upd_same) upd_same
    rw [upd_ne (ne_of_none e hd), upd_ne nb, upd_ne (ne_of_none e hd)]
    exact e
end
end K05

set_option Elab.async false
set_option linter.all false
set_option maxRecDepth 100000
set_option maxHeartbeats 4000000
namespace K05
open PySem L2
/-! ### the law's own draws -/
def Bx (H : Hp) (p : Addr) : Prop := ∃ a b c : Int, H p = some (.lst [.int a, .int b, .int c])
def sp_cell (K : PySem.W.Frag) : Sp := fun vs H Q _ => ∃ (a : Addr) (ns : List Int) (k : Int), vs = [.ref a, .int k] ∧ SqL K H a (ns.map V.int) ∧ ns.length ≤ 63 ∧ 0 ≤ k ∧ k < 1000 ∧ ∀ z, Q (.int z) H
def sp_box : Sp := fun vs H Q _ => ∃ z : Int, vs = [.int z] ∧ ∀ p H', H p = none → Same H H' → Bx H' p → Q (.ref p) H'
def sp_take : Sp := fun vs H Q _ => ∃ (p : Addr) (m : Int), vs = [.ref p, .int m] ∧ Bx H p ∧ 0 < m ∧ m ≤ 1000000000 ∧ ∀ z H', 0 ≤ z → z < m → SameB p H H' → Bx H' p → Q (.int z) H'
theorem at_ints {ns : List Int} {i : Int} (h0 : 0 ≤ i) (h1 : i < ns.length) : ∃ z, atI (ns.map V.int) i = some (V.int z) := by
  have hj : i.toNat < ns.length := by omega
  exact ⟨ns[i.toNat], at_of (j := i.toNat) (by omega) (by simp [hj])⟩
section
variable {P : Program} {w : World} {K : PySem.W.Frag} {mg : Str → Option Value} {base : Heap} {D : Ad}
abbrev s__law_cell : Stmt := top 22
theorem sc__law_cell : FnScope ["_law_script", "_law_k"] ["_law_script", "_law_k"] (defScope s__law_cell) := ⟨rfl, rfl, rfl, by decide +kernel, rfl, by decide +kernel, by decide +kernel⟩
theorem ok__law_cell {f : Addr} {fd : FuncData} (F : Fun K "_law_cell" "_law_cell" s__law_cell f fd) (T : Txt K mg D)  : FnOk P w K mg base CX0 1 f fd ["_law_script", "_law_k"] (sp_cell K) := by
  refine F.ok sc__law_cell (fun vs H Q E h => ?_) (fun cdv A outer s H vs Q E hr h => ?_)
  · obtain ⟨a, ns, i, rfl, hS, hl, h0, h1, k⟩ := h
    rfl
  · obtain ⟨a, ns, i, rfl, hS, hl, h0, h1, k⟩ := h
    refine ⟨_, (@pss_cons _ _ _ _ _ (@ps_if _ _ _ _ _ _ _ _ (@pt_cmpR _ _ _ _ _ _ _ _ op_lt (@pv _ 1 _ _ (by rfl) (by first | exact Or.inl rfl | exact Or.inr (Or.inl rfl) | exact Or.inr (Or.inr rfl)) (by decide) (by decide)) (@pe_callB _ _ _ _ _ _ _ _ _ (call_lenK (K := K) rfl) (by rfl) T.b_len (by decide +kernel) (@pa_c _ _ _ _ _ (@pv _ 0 _ _ (by rfl) (by first | exact Or.inl rfl | exact Or.inr (Or.inl rfl) | exact Or.inr (Or.inr rfl)) (by decide) (by decide)) (@pa_nil _) (by rfl)) (by decide) (by decide) (by rfl) (by rfl)) (nomark _)) (@pss_one _ _ _ (@ps_ret _ _ _ _ (@pe_ix _ _ _ _ _ _ _ (ix_listK (K := K) rfl) (@pv _ 0 _ _ (by rfl) (by first | exact Or.inl rfl | exact Or.inr (Or.inl rfl) | exact Or.inr (Or.inr rfl)) (by decide) (by decide)) (@pv _ 1 _ _ (by rfl) (by first | exact Or.inl rfl | exact Or.inr (Or.inl rfl) | exact Or.inr (Or.inr rfl)) (by decide) (by decide)) (fun _ _ => rfl)))) (@pss_nil _)) 
      (@pss_cons _ _ _ _ _ (@ps_if _ _ _ _ _ _ _ _ (@pt_cmpR _ _ _ _ _ _ _ _ op_eq (@pe_callB _ _ _ _ _ _ _ _ _ (call_lenK (K := K) rfl) (by rfl) T.b_len (by decide +kernel) (@pa_c _ _ _ _ _ (@pv _ 0 _ _ (by rfl) (by first | exact Or.inl rfl | exact Or.inr (Or.inl rfl) | exact Or.inr (Or.inr rfl)) (by decide) (by decide)) (@pa_nil _) (by rfl)) (by decide) (by decide) (by rfl) (by rfl)) (@pe_int _ _ _ _) (nomark _)) (@pss_one _ _ _ (@ps_ret _ _ _ _ (@pe_op _ _ _ _ _ _ _ _ op_add (@pe_op _ _ _ _ _ _ _ _ op_mul (@pe_int _ _ _ _) (@pv _ 1 _ _ (by rfl) (by first | exact Or.inl rfl | exact Or.inr (Or.inl rfl) | exact Or.inr (Or.inr rfl)) (by decide) (by decide))) (@pe_int _ _ _ _)))) (@pss_nil _)) 
      (@pss_one _ _ _ (@ps_ret _ _ _ _ (@pe_op _ _ _ _ _ _ _ _ op_add (@pe_op _ _ _ _ _ _ _ _ op_fdiv (@pe_ix _ _ _ _ _ _ _ (ix_listK (K := K) rfl) (@pv _ 0 _ _ (by rfl) (by first | exact Or.inl rfl | exact Or.inr (Or.inl rfl) | exact Or.inr (Or.inr rfl)) (by decide) (by decide)) (@pe_op _ _ _ _ _ _ _ _ op_mod (@pv _ 1 _ _ (by rfl) (by first | exact Or.inl rfl | exact Or.inr (Or.inl rfl) | exact Or.inr (Or.inr rfl)) (by decide) (by decide)) (@pe_callB _ _ _ _ _ _ _ _ _ (call_lenK (K := K) rfl) (by rfl) T.b_len (by decide +kernel) (@pa_c _ _ _ _ _ (@pv _ 0 _ _ (by rfl) (by first | exact Or.inl rfl | exact Or.inr (Or.inl rfl) | exact Or.inr (Or.inr rfl)) (by decide) (by decide)) (@pa_nil _) (by rfl)) (by decide) (by decide) (by rfl) (by rfl))) (fun _ _ => rfl)) (@pe_op _ _ _ _ _ _ _ _ op_add (@pv _ 1 _ _ (by rfl) (by first | exact Or.inl rfl | exact Or.inr (Or.inl rfl) | exact Or.inr (Or.inr rfl)) (by decide) (by decide)) (@pe_int _ _ _ _))) (@pe_op _ _ _ _ _ _ _ _ op_mul (@pe_int _ _ _ _) (@pv _ 1 _ _ (by rfl) (by first | exact Or.inl rfl | exact Or.inr (Or.inl rfl) | exact Or.inr (Or.inr rfl)) (by decide) (by decide)))))))), ?_⟩
    refine ⟨_, rfl, _, rfl, _, _, rfl, .inl ⟨_, hS, rfl⟩, _, _, rfl, rfl, _, rfl, ?_⟩
    rw [List.length_map]
    refine ite2 (fun c1 => ?_) (fun c1 => ?_)
    · obtain ⟨z, hz⟩ := at_ints (ns := ns) h0 (of_decide_eq_true c1)
      exact ⟨_, rfl, _, rfl, a, _, i, _, rfl, rfl, hS, hz, k z⟩
    · refine ⟨_, rfl, _, _, rfl, .inl ⟨_, hS, rfl⟩, rfl, _, rfl, ?_⟩
      rw [List.length_map]
      refine ite2 (fun c2 => ?_) (fun c2 => ?_)
      · exact ⟨_, rfl, _, _, rfl, rfl, .inl ⟨by decide, by decide⟩, _, _, rfl, rfl, k _⟩
      · have hn : (0 : Int) < (ns.length : Int) := by
          rcases Nat.eq_zero_or_pos ns.length with z | z
          · exact absurd (by rw [z]; exact decide_eq_true rfl) c2
          · omega
        obtain ⟨z, hz⟩ := at_ints (ns := ns) (i := i % (ns.length : Int)) (Int.emod_nonneg _ (by omega)) (Int.emod_lt_of_pos _ hn)
        refine ⟨_, rfl, _, rfl, _, rfl, _, _, rfl, .inl ⟨_, hS, rfl⟩, _, _, rfl, rfl, (by rw [List.length_map]; exact hn), a, _, _, _, rfl, rfl, hS, (by rw [List.length_map]; exact hz), ?_⟩
        refine ⟨_, rfl, _, _, rfl, rfl, _, _, rfl, rfl, ⟨by omega, by omega⟩, _, rfl, _, _, rfl, rfl, .inl ⟨by decide, by decide⟩, _, _, rfl, rfl, k _⟩
abbrev s__law_box : Stmt := top 23
theorem sc__law_box : FnScope ["_law_cell_here"] ["_law_cell_here"] (defScope s__law_box) := ⟨rfl, rfl, rfl, by decide +kernel, rfl, by decide +kernel, by decide +kernel⟩
theorem ok__law_box {f : Addr} {fd : FuncData} (F : Fun K "_law_box" "_law_box" s__law_box f fd) (T : Txt K mg D)  : FnOk P w K mg base CX0 1 f fd ["_law_cell_here"] (sp_box) := by
  refine F.ok sc__law_box (fun vs H Q E h => ?_) (fun cdv A outer s H vs Q E hr h => ?_)
  · obtain ⟨z, rfl, k⟩ := h
    rfl
  · obtain ⟨z, rfl, k⟩ := h
    refine ⟨_, (@pss_one _ _ _ (@ps_ret _ _ _ _ (@pe_lst _ _ _ _ (@pa_c _ _ _ _ _ (@pe_callB _ _ _ _ _ _ _ _ _ (call_max2 rfl) (by rfl) T.b_max (by decide +kernel) (@pa_c _ _ _ _ _ (@pe_int _ _ _ _) (@pa_c _ _ _ _ _ (@pe_op _ _ _ _ _ _ _ _ op_sub (@pv _ 0 _ _ (by rfl) (by first | exact Or.inl rfl | exact Or.inr (Or.inl rfl) | exact Or.inr (Or.inr rfl)) (by decide) (by decide)) (@pe_op _ _ _ _ _ _ _ _ op_pow (@pe_int _ _ _ _) (@pe_int _ _ _ _))) (@pa_nil _) (by rfl)) (by rfl)) (by decide) (by decide) (by rfl) (by rfl)) (@pa_c _ _ _ _ _ (@pe_op _ _ _ _ _ _ _ _ op_mod (@pv _ 0 _ _ (by rfl) (by first | exact Or.inl rfl | exact Or.inr (Or.inl rfl) | exact Or.inr (Or.inr rfl)) (by decide) (by decide)) (@pe_int _ _ _ _)) (@pa_c _ _ _ _ _ (@pe_int _ _ _ _) (@pa_nil _) (by rfl)) (by rfl)) (by rfl))))), ?_⟩
    refine ⟨_, rfl, _, _, rfl, rfl, ⟨by decide, by decide, by decide⟩, _, _, rfl, rfl, _, _, rfl, _, rfl, _, _, rfl, rfl, (by show (0 : Int) < 2147483647; decide), (by show 3 ≤ sizeLine; decide), fun p hp => ?_⟩
    exact k p _ hp (same_new hp) ⟨_, _, _, upd_same⟩
abbrev s__law_take : Stmt := top 24
theorem sc__law_take : FnScope ["_law_box_here", "_law_many", "_law_digit", "_law_number"] ["_law_box_here", "_law_many"] (defScope s__law_take) := ⟨rfl, rfl, rfl, by decide +kernel, rfl, by decide +kernel, by decide +kernel⟩
theorem ok__law_take {f : Addr} {fd : FuncData} (F : Fun K "_law_take" "_law_take" s__law_take f fd) (T : Txt K mg D)  : FnOk P w K mg base CX0 1 f fd ["_law_box_here", "_law_many"] (sp_take) := by
  refine F.ok sc__law_take (fun vs H Q E h => ?_) (fun cdv A outer s H vs Q E hr h => ?_)
  · obtain ⟨p, m, rfl, ⟨a, b, c, hb⟩, h0, h1, k⟩ := h
    rfl
  · obtain ⟨p, m, rfl, ⟨a, b, c, hb⟩, h0, h1, k⟩ := h
    refine ⟨_, (@pss_cons _ _ _ _ _ (@ps_if _ _ _ _ _ _ _ _ (@pt_cmpR _ _ _ _ _ _ _ _ op_gt (@pe_ix _ _ _ _ _ _ _ (ix_listK (K := K) rfl) (@pv _ 0 _ _ (by rfl) (by first | exact Or.inl rfl | exact Or.inr (Or.inl rfl) | exact Or.inr (Or.inr rfl)) (by decide) (by decide)) (@pe_int _ _ _ _) (fun _ _ => rfl)) (@pe_int _ _ _ _) (nomark _)) (@pss_cons _ _ _ _ _ (@ps_set _ _ 2 _ _ _ _ sc__law_take.nd rfl (by first | exact Or.inl rfl | exact Or.inr rfl) (@pe_op _ _ _ _ _ _ _ _ op_mod (@pe_ix _ _ _ _ _ _ _ (ix_listK (K := K) rfl) (@pv _ 0 _ _ (by rfl) (by first | exact Or.inl rfl | exact Or.inr (Or.inl rfl) | exact Or.inr (Or.inr rfl)) (by decide) (by decide)) (@pe_int _ _ _ _) (fun _ _ => rfl)) (@pv _ 1 _ _ (by rfl) (by first | exact Or.inl rfl | exact Or.inr (Or.inl rfl) | exact Or.inr (Or.inr rfl)) (by decide) (by decide))) (by rfl) (by first | exact .inl rfl | exact .inr rfl | assumption)) 
      (@pss_cons _ _ _ _ _ (@ps_asg _ _ _ _ _ _ (@pe_op _ _ _ _ _ _ _ _ op_fdiv (@pe_ix _ _ _ _ _ _ _ (ix_listK (K := K) rfl) (@pv _ 0 _ _ (by rfl) (by first | exact Or.inl rfl | exact Or.inr (Or.inl rfl) | exact Or.inr (Or.inr rfl)) (by decide) (by decide)) (@pe_int _ _ _ _) (fun _ _ => rfl)) (@pv _ 1 _ _ (by rfl) (by first | exact Or.inl rfl | exact Or.inr (Or.inl rfl) | exact Or.inr (Or.inr rfl)) (by decide) (by decide))) (@pg_sub _ _ _ _ _ _ _ (@pv _ 0 _ _ (by rfl) (by first | exact Or.inl rfl | exact Or.inr (Or.inl rfl) | exact Or.inr (Or.inr rfl)) (by decide) (by decide)) (@pe_int _ _ _ _) set_list (by intro _; rfl)) (by rfl) (by rfl) (by rfl)) 
      (@pss_one _ _ _ (@ps_ret _ _ _ _ (@pv _ 2 _ _ (by rfl) (by first | exact Or.inl rfl | exact Or.inr (Or.inl rfl) | exact Or.inr (Or.inr rfl)) (by decide) (by decide)))))) (@pss_nil _)) 
      (@pss_cons _ _ _ _ _ (@ps_asg _ _ _ _ _ _ (@pe_op _ _ _ _ _ _ _ _ op_add (@pe_ix _ _ _ _ _ _ _ (ix_listK (K := K) rfl) (@pv _ 0 _ _ (by rfl) (by first | exact Or.inl rfl | exact Or.inr (Or.inl rfl) | exact Or.inr (Or.inr rfl)) (by decide) (by decide)) (@pe_int _ _ _ _) (fun _ _ => rfl)) (@pe_int _ _ _ _)) (@pg_sub _ _ _ _ _ _ _ (@pv _ 0 _ _ (by rfl) (by first | exact Or.inl rfl | exact Or.inr (Or.inl rfl) | exact Or.inr (Or.inr rfl)) (by decide) (by decide)) (@pe_int _ _ _ _) set_list (by intro _; rfl)) (by rfl) (by rfl) (by rfl)) 
      (@pss_cons _ _ _ _ _ (@ps_set _ _ 3 _ _ _ _ sc__law_take.nd rfl (by first | exact Or.inl rfl | exact Or.inr rfl) (@pe_op _ _ _ _ _ _ _ _ op_mod (@pe_op _ _ _ _ _ _ _ _ op_add (@pe_op _ _ _ _ _ _ _ _ op_add (@pe_op _ _ _ _ _ _ _ _ op_mul (@pe_ix _ _ _ _ _ _ _ (ix_listK (K := K) rfl) (@pv _ 0 _ _ (by rfl) (by first | exact Or.inl rfl | exact Or.inr (Or.inl rfl) | exact Or.inr (Or.inr rfl)) (by decide) (by decide)) (@pe_int _ _ _ _) (fun _ _ => rfl)) (@pe_int _ _ _ _)) (@pe_op _ _ _ _ _ _ _ _ op_mul (@pe_int _ _ _ _) (@pe_ix _ _ _ _ _ _ _ (ix_listK (K := K) rfl) (@pv _ 0 _ _ (by rfl) (by first | exact Or.inl rfl | exact Or.inr (Or.inl rfl) | exact Or.inr (Or.inr rfl)) (by decide) (by decide)) (@pe_int _ _ _ _) (fun _ _ => rfl)))) (@pe_int _ _ _ _)) (@pe_int _ _ _ _)) (by rfl) (by first | exact .inl rfl | exact .inr rfl | assumption)) 
      (@pss_cons _ _ _ _ _ (@ps_set _ _ 3 _ _ _ _ sc__law_take.nd rfl (by first | exact Or.inl rfl | exact Or.inr rfl) (@pe_op _ _ _ _ _ _ _ _ op_mod (@pe_op _ _ _ _ _ _ _ _ op_mul (@pe_op _ _ _ _ _ _ _ _ op_mod (@pe_op _ _ _ _ _ _ _ _ op_mul (@pv _ 3 _ _ (by rfl) (by first | exact Or.inl rfl | exact Or.inr (Or.inl rfl) | exact Or.inr (Or.inr rfl)) (by decide) (by decide)) (@pv _ 3 _ _ (by rfl) (by first | exact Or.inl rfl | exact Or.inr (Or.inl rfl) | exact Or.inr (Or.inr rfl)) (by decide) (by decide))) (@pe_int _ _ _ _)) (@pe_int _ _ _ _)) (@pe_int _ _ _ _)) (by rfl) (by first | exact .inl rfl | exact .inr rfl | assumption)) 
      (@pss_one _ _ _ (@ps_ret _ _ _ _ (@pe_op _ _ _ _ _ _ _ _ op_mod (@pe_op _ _ _ _ _ _ _ _ op_fdiv (@pe_op _ _ _ _ _ _ _ _ op_mod (@pe_op _ _ _ _ _ _ _ _ op_mul (@pv _ 3 _ _ (by rfl) (by first | exact Or.inl rfl | exact Or.inr (Or.inl rfl) | exact Or.inr (Or.inr rfl)) (by decide) (by decide)) (@pv _ 3 _ _ (by rfl) (by first | exact Or.inl rfl | exact Or.inr (Or.inl rfl) | exact Or.inr (Or.inr rfl)) (by decide) (by decide))) (@pe_int _ _ _ _)) (@pe_int _ _ _ _)) (@pv _ 1 _ _ (by rfl) (by first | exact Or.inl rfl | exact Or.inr (Or.inl rfl) | exact Or.inr (Or.inr rfl)) (by decide) (by decide))))))))), ?_⟩
    refine ⟨_, rfl, p, _, 0, _, rfl, rfl, SqL.of hb, rfl, _, _, rfl, rfl, _, rfl, ?_⟩
    refine ite2 (fun _ => ?_) (fun _ => ?_)
    · refine ⟨_, rfl, p, _, 0, _, rfl, rfl, SqL.of hb, rfl, _, rfl, _, _, rfl, rfl, h0, ?_⟩
      refine ⟨_, rfl, p, _, 0, _, rfl, rfl, SqL.of hb, rfl, _, rfl, _, _, rfl, rfl, ⟨h0, by omega⟩, _, rfl, p, _, 0, 0, rfl, rfl, hb, rfl, ?_⟩
      exact ⟨_, rfl, k _ _ (Int.emod_nonneg _ (by omega)) (Int.emod_lt_of_pos _ h0) sameB_upd ⟨_, _, _, upd_same⟩⟩
    · refine ⟨_, rfl, p, _, 2, _, rfl, rfl, SqL.of hb, rfl, _, _, rfl, rfl, _, rfl, p, _, 2, 2, rfl, rfl, hb, rfl, ?_⟩
      refine ⟨_, rfl, p, _, 1, _, rfl, rfl, SqL.of upd_same, rfl, _, _, rfl, rfl, .inr ⟨by decide, by decide⟩, _, rfl, p, _, 2, _, rfl, rfl, SqL.of upd_same, rfl, _, _, rfl, rfl, .inl ⟨by decide, by decide⟩, _, _, rfl, rfl, _, _, rfl, rfl, _, _, rfl, rfl, (by show (0 : Int) < 2147483629; decide), ?_⟩
      generalize hx : (b * 48271 + 7919 * (c + 1) + 11) % 2147483629 = x
      have x0 : 0 ≤ x := by omega
      have x1 : x < 2147483629 := by omega
      refine ⟨_, rfl, _, rfl, _, _, rfl, rfl, .inl ⟨by omega, by omega⟩, _, _, rfl, rfl, (by show (0 : Int) < 2147483587; decide), _, _, rfl, rfl, .inr ⟨by decide, by decide⟩, _, _, rfl, rfl, (by show (0 : Int) < 2147483647; decide), ?_⟩
      generalize hy : x * x % 2147483587 * 69621 % 2147483647 = y
      have y0 : 0 ≤ y := by omega
      have y1 : y < 2147483647 := by omega
      refine ⟨_, rfl, _, rfl, _, _, rfl, rfl, .inl ⟨by omega, by omega⟩, _, _, rfl, rfl, (by show (0 : Int) < 2147483629; decide), _, _, rfl, rfl, ⟨by decide, by decide⟩, _, rfl, _, _, rfl, rfl, h0, ?_⟩
      exact k _ _ (Int.emod_nonneg _ (by omega)) (Int.emod_lt_of_pos _ h0) sameB_upd ⟨_, _, _, upd_same⟩
end

end K05

set_option Elab.async false
set_option linter.all false
set_option maxRecDepth 100000
set_option maxHeartbeats 4000000
namespace K05
open PySem L2
/-! ### what is told of a value by its kind -/
def isI : V → Bool | .int _ => true | _ => false
def isB : V → Bool | .bl _ => true | _ => false
def isS : V → Bool | .str _ => true | _ => false
section
variable {K : PySem.W.Frag} {H : Hp}
theorem kit_int {x : V} {T : String} (h : TyOf K H x (.type T)) : PySem.W.kitOne K (.type T) (.type "int") = some (isI x || isB x) := by cases h <;> rfl
theorem kit_bool {x : V} {T : String} (h : TyOf K H x (.type T)) : PySem.W.kitOne K (.type T) (.type "bool") = some (isB x) := by cases h <;> rfl
theorem kit_str {x : V} {T : String} (h : TyOf K H x (.type T)) : PySem.W.kitOne K (.type T) (.type "str") = some (isS x) := by cases h <;> rfl
end
def sp_whole (K : PySem.W.Frag) : Sp := fun vs H Q _ => ∃ x T, vs = [x] ∧ TyOf K H x (.type T) ∧ Q (.bl (isI x)) H
def within (x : V) (lo hi : Int) : Bool := match x with | .int i => decide (lo ≤ i) && decide (i ≤ hi) | _ => false
def sp_within (K : PySem.W.Frag) : Sp := fun vs H Q _ => ∃ x T lo hi, vs = [x, .int lo, .int hi] ∧ TyOf K H x (.type T) ∧ Q (.bl (within x lo hi)) H
def among (a b : Str) : Bool := a.cps.toList.all fun c => decide (c ∈ b.cps.toList)
def sp_among : Sp := fun vs H Q _ => ∃ a b, vs = [.str a, .str b] ∧ a.cps.size ≤ 100 ∧ ∀ H', Same H H' → Q (.bl (among a b)) H'
def isNm (a : Str) : Bool := within (.int a.length) 1 8 && ((match a.cps.toList with | c :: _ => decide (c ∈ LET.cps.toList) | [] => false) && among a (LET ++ FIG))
def isName : V → Bool | .str a => isNm a | _ => false
def Small (x : V) : Prop := ∀ a, x = .str a → a.length ≤ 1000000
def sp_name (K : PySem.W.Frag) : Sp := fun vs H Q _ => ∃ x T, vs = [x] ∧ TyOf K H x (.type T) ∧ Small x ∧ ∀ H', Same H H' → Q (.bl (isName x)) H'
theorem small_line {n : Nat} (h : n ≤ 1000000) : n ≤ sizeLine := Nat.le_trans h (by decide)
theorem len_list (a : Str) : a.cps.toList.length = a.length := by simp [Str.length]
theorem head_of {a : Str} {hi : Int} (h : within (.int a.length) 1 hi = true) : ∃ c r, a.cps.toList = c :: r := by
  cases e : a.cps.toList with
  | nil =>
    have h0 := len_list a
    rw [e] at h0
    simp [within, ← h0] at h
  | cons c r => exact ⟨c, r, rfl⟩
theorem within_le {a : Str} {hi : Int} (h : within (.int a.length) 1 hi = true) : (a.length : Int) ≤ hi := by
  simp [within] at h
  exact h.2
theorem at0 {c : Nat} {r l : List Nat} (h : l = c :: r) : atI l 0 = some c := atI_nat (j := 0) (by rw [h]; rfl)
section
variable {P : Program} {w : World} {K : PySem.W.Frag} {mg : Str → Option Value} {base : Heap} {D : Ad}
abbrev s_is_whole : Stmt := top 9
theorem sc_is_whole : FnScope ["thing"] ["thing"] (defScope s_is_whole) := ⟨rfl, rfl, rfl, by decide +kernel, rfl, by decide +kernel, by decide +kernel⟩
theorem ok_is_whole {f : Addr} {fd : FuncData} (F : Fun K "is_whole" "is_whole" s_is_whole f fd) (T : Txt K mg D)  : FnOk P w K mg base CX0 1 f fd ["thing"] (sp_whole K) := by
  refine F.ok sc_is_whole (fun vs H Q E h => ?_) (fun cdv A outer s H vs Q E hr h => ?_)
  · obtain ⟨x, Ty, rfl, ht, k⟩ := h
    rfl
  · obtain ⟨x, Ty, rfl, ht, k⟩ := h
    refine ⟨_, (@pss_one _ _ _ (@ps_ret _ _ _ _ (@pe_and _ _ _ _ _ _ _ (@pe_callB _ _ _ _ _ _ _ _ _ (call_isinstK (K := K) rfl) (by rfl) T.b_isinstance (by decide +kernel) (@pa_c _ _ _ _ _ (@pv _ 0 _ _ (by rfl) (by first | exact Or.inl rfl | exact Or.inr (Or.inl rfl) | exact Or.inr (Or.inr rfl)) (by decide) (by decide)) (@pa_c _ _ _ _ _ (@pe_type _ _ "int" _ rfl T.b_int (by decide +kernel) (by decide) (by decide)) (@pa_nil _) (by rfl)) (by rfl)) (by decide) (by decide) (by rfl) (by rfl)) (@pe_one _ _ _ _ _ (@pe_not _ _ _ _ (@pe_callB _ _ _ _ _ _ _ _ _ (call_isinstK (K := K) rfl) (by rfl) T.b_isinstance (by decide +kernel) (@pa_c _ _ _ _ _ (@pv _ 0 _ _ (by rfl) (by first | exact Or.inl rfl | exact Or.inr (Or.inl rfl) | exact Or.inr (Or.inr rfl)) (by decide) (by decide)) (@pa_c _ _ _ _ _ (@pe_type _ _ "bool" _ rfl T.b_bool (by decide +kernel) (by decide) (by decide)) (@pa_nil _) (by rfl)) (by rfl)) (by decide) (by decide) (by rfl) (by rfl))))))), ?_⟩
    refine ⟨_, rfl, _, _, _, _, rfl, ht, kit_int ht, _, rfl, ?_⟩
    cases x <;> first | exact iteF k | exact iteT ⟨_, rfl, _, _, _, _, rfl, ht, kit_bool ht, _, rfl, k⟩
abbrev s_is_within : Stmt := top 10
theorem sc_is_within : FnScope ["thing", "low", "high"] ["thing", "low", "high"] (defScope s_is_within) := ⟨rfl, rfl, rfl, by decide +kernel, rfl, by decide +kernel, by decide +kernel⟩
theorem ok_is_within {f : Addr} {fd : FuncData} (F : Fun K "is_within" "is_within" s_is_within f fd) (T : Txt K mg D) (c_is_whole : CalF P w K mg base 1 "is_whole" ["thing"] (sp_whole K)) : FnOk P w K mg base CX0 2 f fd ["thing", "low", "high"] (sp_within K) := by
  refine F.ok sc_is_within (fun vs H Q E h => ?_) (fun cdv A outer s H vs Q E hr h => ?_)
  · obtain ⟨x, Ty, lo, hi, rfl, ht, k⟩ := h
    rfl
  · obtain ⟨x, Ty, lo, hi, rfl, ht, k⟩ := h
    refine ⟨_, (@pss_one _ _ _ (@ps_ret _ _ _ _ (@pe_and _ _ _ _ _ _ _ (@pe_fun _ _ _ _ _ _ _ _ _ _ _ c_is_whole hr (@pa_c _ _ _ _ _ (@pv _ 0 _ _ (by rfl) (by first | exact Or.inl rfl | exact Or.inr (Or.inl rfl) | exact Or.inr (Or.inr rfl)) (by decide) (by decide)) (@pa_nil _) (by rfl)) (by rfl) (by decide) (by decide) (by rfl) (by rfl)) (@pe_and _ _ _ _ _ _ _ (@pe_cmpR _ _ _ _ _ _ _ _ op_le (@pv _ 1 _ _ (by rfl) (by first | exact Or.inl rfl | exact Or.inr (Or.inl rfl) | exact Or.inr (Or.inr rfl)) (by decide) (by decide)) (@pv _ 0 _ _ (by rfl) (by first | exact Or.inl rfl | exact Or.inr (Or.inl rfl) | exact Or.inr (Or.inr rfl)) (by decide) (by decide)) (nomark _)) (@pe_one _ _ _ _ _ (@pe_cmpR _ _ _ _ _ _ _ _ op_le (@pv _ 0 _ _ (by rfl) (by first | exact Or.inl rfl | exact Or.inr (Or.inl rfl) | exact Or.inr (Or.inr rfl)) (by decide) (by decide)) (@pv _ 2 _ _ (by rfl) (by first | exact Or.inl rfl | exact Or.inr (Or.inl rfl) | exact Or.inr (Or.inr rfl)) (by decide) (by decide)) (nomark _))))))), ?_⟩
    refine ⟨_, rfl, _, _, rfl, ht, _, rfl, ?_⟩
    cases x with
    | int i =>
      refine iteT ⟨_, rfl, _, rfl, _, _, rfl, rfl, _, rfl, ?_⟩
      by_cases h1 : lo ≤ i
      · rw [decide_eq_true h1]
        refine iteT ⟨_, rfl, _, rfl, _, _, rfl, rfl, ?_⟩
        have e : within (.int i) lo hi = decide (i ≤ hi) := by simp [within, h1]
        rw [e] at k
        exact k
      · rw [decide_eq_false h1]
        have e : within (.int i) lo hi = false := by simp [within, h1]
        rw [e] at k
        exact iteF k
    | _ => exact iteF k
abbrev s_are_among : Stmt := top 11
theorem sc_are_among : FnScope ["text", "signs", "sign"] ["text", "signs"] (defScope s_are_among) := ⟨rfl, rfl, rfl, by decide +kernel, rfl, by decide +kernel, by decide +kernel⟩
theorem ok_are_among {f : Addr} {fd : FuncData} (F : Fun K "are_among" "are_among" s_are_among f fd) (T : Txt K mg D)  : FnOk P w K mg base CX0 1 f fd ["text", "signs"] (sp_among) := by
  refine F.ok sc_are_among (fun vs H Q E h => ?_) (fun cdv A outer s H vs Q E hr h => ?_)
  · obtain ⟨a, b, rfl, hz, k⟩ := h
    rfl
  · obtain ⟨a, b, rfl, hz, k⟩ := h
    refine ⟨_, (@pss_one _ _ _ (@ps_ret _ _ _ _ (@pe_callB _ _ _ _ _ _ _ _ _ (cr_all rfl) (by rfl) T.b_all (by decide +kernel) (@pa_c _ _ _ _ _ (@pe_lc _ _ _ _ _ _ [("sign", 2)] _ _ (gName 2) _ _ (by rfl) sc_are_among.nd (@pi_str _ _ _ _ (@pv _ 0 _ _ (by rfl) (by first | exact Or.inl rfl | exact Or.inr (Or.inl rfl) | exact Or.inr (Or.inr rfl)) (by decide) (by decide))) (blkOk_by (own := [("sign", 2)]) (N := ["text", "signs", "sign"]) (sc := defScope s_are_among) (by decide +kernel)) (fun _ _ _ _ _ => (@pg_name _ _ 2 _ sc_are_among.nd rfl (by first | exact Or.inl rfl | exact Or.inr rfl) (by first | exact .inl rfl | exact .inr rfl | assumption))) (fun _ _ _ _ _ => (@pts_nil _)) (fun _ _ _ _ _ => (@pe_cmpR _ _ _ _ _ _ _ _ op_in_sign (@pv _ 2 _ _ (by rfl) (by first | exact Or.inl rfl | exact Or.inr (Or.inl rfl) | exact Or.inr (Or.inr rfl)) (by decide) (by decide)) (@pv _ 1 _ _ (by rfl) (by first | exact Or.inl rfl | exact Or.inr (Or.inl rfl) | exact Or.inr (Or.inr rfl)) (by decide) (by decide)) (by rfl))) (by intro _; rfl)) (@pa_nil _) (by rfl)) (by decide) (by decide) (by rfl) (by rfl)))), ?_⟩
    refine ⟨_, rfl, a, rfl, fun D hD => lc_str (x := a) (fun i H1 => Same H H1 ∧ H1 D = some (.lst (((a.cps.toList.take i).map fun c => decide (c ∈ b.cps.toList)).map V.bl)) ∧ i ≤ a.cps.size) ⟨same_new hD, upd_same, Nat.zero_le _⟩ ?_ ?_⟩
    · rintro i c H1 hc ⟨s1, h1, h2⟩
      refine ⟨rfl, yesI ?_⟩
      refine ⟨_, rfl, _, rfl, c, b, rfl, rfl, _, h1, ?_, ?_, ?_, ?_⟩
      · simp only [List.length_map, List.length_take]
        exact small1000 (by omega)
      · exact fun e o q => by
          rw [upd_ne (ne_of_none q hD)]
          exact s1 e o q
      · rw [upd_same, List.take_add_one, hc]
        simp
      · have := (List.getElem?_eq_some_iff.mp hc).1
        simp at this
        omega
    · rintro H1 ⟨s1, h1, _⟩
      refine ⟨D, _, rfl, SqL.of h1, ?_⟩
      have e : (List.map (fun c => decide (c ∈ b.cps.toList)) (List.take a.cps.size a.cps.toList)).all id = among a b := by
        unfold among
        rw [List.take_of_length_le (by simp), List.all_map]
        rfl
      rw [e]
      exact k _ s1
abbrev s_is_name : Stmt := top 12
theorem sc_is_name : FnScope ["thing"] ["thing"] (defScope s_is_name) := ⟨rfl, rfl, rfl, by decide +kernel, rfl, by decide +kernel, by decide +kernel⟩
theorem ok_is_name {f : Addr} {fd : FuncData} (F : Fun K "is_name" "is_name" s_is_name f fd) (T : Txt K mg D) (c_are_among : CalF P w K mg base 1 "are_among" ["text", "signs"] (sp_among)) (c_is_within : CalF P w K mg base 2 "is_within" ["thing", "low", "high"] (sp_within K)) : FnOk P w K mg base CX0 3 f fd ["thing"] (sp_name K) := by
  refine F.ok sc_is_name (fun vs H Q E h => ?_) (fun cdv A outer s H vs Q E hr h => ?_)
  · obtain ⟨x, Ty, rfl, ht, hz, k⟩ := h
    rfl
  · obtain ⟨x, Ty, rfl, ht, hz, k⟩ := h
    refine ⟨_, (@pss_cons _ _ _ _ _ (@ps_if _ _ _ _ _ _ _ _ (@PW.pt _ _ _ (@pw_or _ _ _ _ _ _ _ (@pt_not _ _ _ _ (@pt_val _ _ _ (@pe_callB _ _ _ _ _ _ _ _ _ (call_isinstK (K := K) rfl) (by rfl) T.b_isinstance (by decide +kernel) (@pa_c _ _ _ _ _ (@pv _ 0 _ _ (by rfl) (by first | exact Or.inl rfl | exact Or.inr (Or.inl rfl) | exact Or.inr (Or.inr rfl)) (by decide) (by decide)) (@pa_c _ _ _ _ _ (@pe_type _ _ "str" _ rfl T.b_str (by decide +kernel) (by decide) (by decide)) (@pa_nil _) (by rfl)) (by rfl)) (by decide) (by decide) (by rfl) (by rfl)) (by intro _; rfl))) (@pw_or1 _ _ _ _ (@pt_not _ _ _ _ (@pt_val _ _ _ (@pe_fun _ _ _ _ _ _ _ _ _ _ _ c_is_within hr (@pa_c _ _ _ _ _ (@pe_callB _ _ _ _ _ _ _ _ _ (call_lenK (K := K) rfl) (by rfl) T.b_len (by decide +kernel) (@pa_c _ _ _ _ _ (@pv _ 0 _ _ (by rfl) (by first | exact Or.inl rfl | exact Or.inr (Or.inl rfl) | exact Or.inr (Or.inr rfl)) (by decide) (by decide)) (@pa_nil _) (by rfl)) (by decide) (by decide) (by rfl) (by rfl)) (@pa_c _ _ _ _ _ (@pe_int _ _ _ _) (@pa_c _ _ _ _ _ (@pe_gc _ _ _ _ T.g_MOST_SIGNS (by rfl) (by decide)) (@pa_nil _) (by rfl)) (by rfl)) (by rfl)) (by rfl) (by decide) (by decide) (by rfl) (by rfl)) (by intro _; rfl)))))) (@pss_one _ _ _ (@ps_ret _ _ _ _ (@pe_bl _ _ _ _))) (@pss_nil _)) 
      (@pss_one _ _ _ (@ps_ret _ _ _ _ (@pe_and _ _ _ _ _ _ _ (@pe_cmpR _ _ _ _ _ _ _ _ op_in_sign (@pe_ix _ _ _ _ _ _ _ ix_str (@pv _ 0 _ _ (by rfl) (by first | exact Or.inl rfl | exact Or.inr (Or.inl rfl) | exact Or.inr (Or.inr rfl)) (by decide) (by decide)) (@pe_int _ _ _ _) (fun _ _ => rfl)) (@pe_gc _ _ _ _ T.g_LETTERS (by rfl) (by decide)) (by rfl)) (@pe_one _ _ _ _ _ (@pe_fun _ _ _ _ _ _ _ _ _ _ _ c_are_among hr (@pa_c _ _ _ _ _ (@pv _ 0 _ _ (by rfl) (by first | exact Or.inl rfl | exact Or.inr (Or.inl rfl) | exact Or.inr (Or.inr rfl)) (by decide) (by decide)) (@pa_c _ _ _ _ _ (@pe_op _ _ _ _ _ _ _ _ op_add_str (@pe_gc _ _ _ _ T.g_LETTERS (by rfl) (by decide)) (@pe_gc _ _ _ _ T.g_FIGURES (by rfl) (by decide))) (@pa_nil _) (by rfl)) (by rfl)) (by rfl) (by decide) (by decide) (by rfl) (by rfl))))))), ?_⟩
    refine ⟨_, rfl, _, _, _, _, rfl, ht, kit_str ht, _, rfl, ?_⟩
    cases x with
    | str a =>
      have hl : a.length ≤ 1000000 := hz a rfl
      refine iteF ?_
      refine ⟨_, rfl, _, a.length, rfl, ⟨small_line hl, rfl⟩, _, _, _, _, rfl, TyOf.int _, _, rfl, ?_⟩
      cases hw : within (.int a.length) 1 8 with
      | false =>
        have e : isName (.str a) = false := by simp [isName, isNm, hw]
        rw [e] at k
        exact iteT (k H (Same.refl H))
      | true =>
        obtain ⟨c, r, hc⟩ := head_of hw
        have h8 := within_le hw
        refine iteF ?_
        refine ⟨_, rfl, a, 0, c, rfl, rfl, small_line hl, at0 hc, c, LET, rfl, rfl, _, rfl, ?_⟩
        by_cases hm : c ∈ LET.cps.toList
        · rw [decide_eq_true hm]
          refine iteT ?_
          refine ⟨_, rfl, LET, FIG, rfl, rfl, (by decide +kernel), a, LET ++ FIG, rfl, (by show a.length ≤ 100; omega), fun H' hs => ?_⟩
          have e : isName (.str a) = among a (LET ++ FIG) := by simp [isName, isNm, hw, hc, hm]
          rw [e] at k
          exact k H' hs
        · rw [decide_eq_false hm]
          have e : isName (.str a) = false := by simp [isName, isNm, hc, hm]
          rw [e] at k
          exact iteF (k H (Same.refl H))
    | _ => exact iteT (iteT (k H (Same.refl H)))
end

end K05

set_option Elab.async false
set_option linter.all false
set_option maxRecDepth 100000
set_option maxHeartbeats 4000000
namespace K05
open PySem L2
open _root_.TL
theorem Bx.same {H H' : Hp} {p : Addr} (h : Bx H p) (s : Same H H') : Bx H' p := let ⟨a, b, c, e⟩ := h; ⟨a, b, c, s _ _ e⟩
theorem Bx.ne {H : Hp} {p q : Addr} (h : Bx H p) (n : H q = none) : q ≠ p := let ⟨_, _, _, e⟩ := h; (ne_of_none e n).symm
theorem Bx.upd {H : Hp} {p q : Addr} {o : HO} (h : Bx H p) (n : q ≠ p) : Bx (upd H q o) p := let ⟨a, b, c, e⟩ := h; ⟨a, b, c, by rw [upd_ne (Ne.symm n)]; exact e⟩
theorem pick {H : Hp} {p : Addr} {L : List V} {P : V → Prop} {n : Nat} {z : Int} (g : H p = some (.lst L)) (hl : L.length = n) (z0 : 0 ≤ z) (z1 : z < n) (ha : ∀ v ∈ L, P v) : ∃ v, atI L z = some v ∧ P v := by
  have hj : z.toNat < L.length := by omega
  exact ⟨L[z.toNat], at_of (j := z.toNat) (by omega) (by simp [hj]), ha _ (List.getElem_mem hj)⟩
theorem at_int {α : Type} {xs : List α} {z : Int} (z0 : 0 ≤ z) (hj : z.toNat < xs.length) : atI xs z = some xs[z.toNat] := by
  have h := atI_nat (xs := xs) (j := z.toNat) (v := xs[z.toNat]) (by simp [hj])
  rwa [Int.toNat_of_nonneg z0] at h
theorem joinL_nil_len : ∀ (l : List (List Nat)), (joinL [] l).length = (l.map List.length).sum
  | [] => rfl
  | [p] => by simp [joinL]
  | p :: q :: r => by
    show (p ++ ([] ++ joinL [] (q :: r))).length = _
    rw [List.nil_append, List.length_append, joinL_nil_len (q :: r)]
    rfl
theorem joinL_nil_mem : ∀ (l : List (List Nat)) {c : Nat}, c ∈ joinL [] l → ∃ p ∈ l, c ∈ p
  | [], c, h => by cases h
  | [p], c, h => ⟨p, by simp, h⟩
  | p :: q :: r, c, h => by
    have h' : c ∈ p ++ ([] ++ joinL [] (q :: r)) := h
    rw [List.nil_append] at h'
    rcases List.mem_append.mp h' with h1 | h1
    · exact ⟨p, by simp, h1⟩
    · obtain ⟨z, hz, hc⟩ := joinL_nil_mem (q :: r) h1
      exact ⟨z, List.mem_cons_of_mem _ hz, hc⟩
theorem join_tl (ys : List Str) : (Txt.join "" ys).cps.toList = joinL [] (ys.map tl) := by
  rw [join_eq]
  exact tl_join "" ys
theorem join_len (ys : List Str) (h : ∀ y ∈ ys, y.length = 1) : (Txt.join "" ys).length = ys.length := by
  have e2 : (Txt.join "" ys).length = (joinL [] (ys.map tl)).length := by rw [← join_tl]; exact (len_list _).symm
  rw [e2, joinL_nil_len]
  clear e2
  induction ys with
  | nil => rfl
  | cons y r ih =>
    have h1 : (tl y).length = 1 := (len_list y).trans (h y List.mem_cons_self)
    simp only [List.map_cons, List.sum_cons, List.length_cons, h1, ih fun z hz => h z (List.mem_cons_of_mem _ hz)]
    omega
theorem sum_ones (ys : List Str) (h : ∀ y ∈ ys, y.length = 1) : (ys.map (·.length)).sum = ys.length := by
  induction ys with
  | nil => rfl
  | cons y r ih =>
    simp only [List.map_cons, List.sum_cons, List.length_cons, h y List.mem_cons_self, ih fun z hz => h z (List.mem_cons_of_mem _ hz)]
    omega
end K05

set_option Elab.async false
set_option linter.all false
set_option maxRecDepth 100000
set_option maxHeartbeats 4000000
namespace K05
open PySem L2
/-! ### rows -/
structure Row where
  n : Str
  f : Int
  l : Int
  g : Int
  r : Int
def Row.vs (r : Row) : List V := [.str r.n, .int r.f, .int r.l, .int r.g, .int r.r]
def iV : V → Int | .int i => i | _ => 0
def itemsOf (H : Hp) : V → Option (List V)
  | .ref a => match H a with
    | some (.tup xs) => some xs
    | _ => none
  | _ => none
def mx1 (i : Int) : Int := if i > 0 then i else 0
def fault4 (ss : List Str) (a b c d : V) : Option Str :=
  if isName a = false then some "name" else if (ss.any fun z => eqS z a) = true then some "double" else if within b 0 (199 + 1) = false then some "first" else
  if within c (mx1 (iV b - 1)) 199 = false then some "last" else if within d 1 12 = false then some "length" else none
def faultL (ss : List Str) : List V → Option Str
  | [a, b, c, d] => fault4 ss a b c d
  | [a, b, c, d, e] => match fault4 ss a b c d with
    | some z => some z
    | none => if within e 0 (iV d) = false then some "left" else none
  | _ => some "form"
def faultV (H : Hp) (ss : List Str) (x : V) : Option Str := match itemsOf H x with
  | some xs => faultL ss xs
  | none => some "form"
def wordV : Option Str → V | none => .non | some z => .str z
theorem ty_same {K : PySem.W.Frag} {H H' : Hp} {x : V} {T : String} (h : TyOf K H x (.type T)) (e : Same H H') : TyOf K H' x (.type T) := by
  cases h with
  | non => exact .non
  | bl b => exact .bl b
  | int i => exact .int i
  | str z => exact .str z
  | flt z => exact .flt z
  | lst h => exact .lst (e _ _ h)
  | frz h => exact .frz (e _ _ h)
  | tup h => exact .tup (e _ _ h)
  | dK h => exact .dK (e _ _ h)
  | dT h => exact .dT (e _ _ h)
theorem items_ref (H : Hp) (a : Addr) : itemsOf H (.ref a) = match H a with | some (.tup xs) => some xs | _ => none := rfl
theorem kit_tup {K : PySem.W.Frag} {H : Hp} {x : V} {T : String} (h : TyOf K H x (.type T)) : PySem.W.kitOne K (.type T) (.type "tuple") = some (itemsOf H x).isSome := by
  cases h with
  | lst h => rw [items_ref, h]; rfl
  | frz h => rw [items_ref, h]; rfl
  | tup h => rw [items_ref, h]; rfl
  | dK h => rw [items_ref, h]; rfl
  | dT h => rw [items_ref, h]; rfl
  | _ => rfl
theorem items_at {H : Hp} {x : V} {xs : List V} (h : itemsOf H x = some xs) : ∃ a, x = .ref a ∧ H a = some (.tup xs) := by
  unfold itemsOf at h
  split at h
  · rename_i a
    split at h
    · rename_i ys e
      cases h
      exact ⟨a, rfl, e⟩
    · cases h
  · cases h
/-- a thing in a row: of a known kind, no long text -/
def Itm (K : PySem.W.Frag) (H : Hp) (y : V) : Prop := (∃ T, TyOf K H y (.type T)) ∧ Small y
theorem Itm.same {K : PySem.W.Frag} {H H' : Hp} {y : V} (h : Itm K H y) (s : Same H H') : Itm K H' y := ⟨let ⟨T, t⟩ := h.1; ⟨T, ty_same t s⟩, h.2⟩
def sp_fault (K : PySem.W.Frag) : Sp := fun vs H Q _ => ∃ x q ss T, vs = [x, .ref q] ∧ H q = some (.lst (ss.map V.str)) ∧ TyOf K H x (.type T) ∧ (∀ xs, itemsOf H x = some xs → ∀ y ∈ xs, Itm K H y) ∧ ∀ H', Same H H' → Q (wordV (faultV H ss x)) H'
def sp_whole_row : Sp := fun vs H Q _ => ∃ a a0 a1 a2 a3 r, vs = [.ref a] ∧ H a = some (.tup (a0 :: a1 :: a2 :: a3 :: r)) ∧ r.length ≤ 1 ∧ ∀ p H', Same H H' → H p = none → H' p = some (.tup [a0, a1, a2, a3, r.headD a3]) → Q (.ref p) H'
theorem in45 (n : Nat) : (if true then !inV (V.int n) [.int 4, .int 5] else inV (V.int n) [.int 4, .int 5]) = !(decide (n = 4) || decide (n = 5)) := by
  have e4 : ((4 : Int) == (n : Int)) = decide (n = 4) := by
    by_cases h : n = 4
    · subst h; rfl
    · rw [decide_eq_false h]; exact beq_eq_false_iff_ne.mpr (by omega)
  have e5 : ((5 : Int) == (n : Int)) = decide (n = 5) := by
    by_cases h : n = 5
    · subst h; rfl
    · rw [decide_eq_false h]; exact beq_eq_false_iff_ne.mpr (by omega)
  simp [inV, eqV, e4, e5]
section
variable {P : Program} {w : World} {K : PySem.W.Frag} {mg : Str → Option Value} {base : Heap} {D : Ad}
abbrev s_fault_of : Stmt := top 17
theorem sc_fault_of : FnScope ["row", "ahead"] ["row", "ahead"] (defScope s_fault_of) := ⟨rfl, rfl, rfl, by decide +kernel, rfl, by decide +kernel, by decide +kernel⟩
theorem ok_fault_of {f : Addr} {fd : FuncData} (F : Fun K "fault_of" "fault_of" s_fault_of f fd) (T : Txt K mg D) (c_is_within : CalF P w K mg base 2 "is_within" ["thing", "low", "high"] (sp_within K)) (c_is_name : CalF P w K mg base 3 "is_name" ["thing"] (sp_name K)) : FnOk P w K mg base CX0 4 f fd ["row", "ahead"] (sp_fault K) := by
  refine F.ok sc_fault_of (fun vs H Q E h => ?_) (fun cdv A outer s H vs Q E hr h => ?_)
  · obtain ⟨x, q, ss, Ty, rfl, hq, ht, hi, k⟩ := h
    rfl
  · obtain ⟨x, q, ss, Ty, rfl, hq, ht, hi, k⟩ := h
    refine ⟨_, (@pss_cons _ _ _ _ _ (@ps_if _ _ _ _ _ _ _ _ (@PW.pt _ _ _ (@pw_or _ _ _ _ _ _ _ (@pt_not _ _ _ _ (@pt_val _ _ _ (@pe_callB _ _ _ _ _ _ _ _ _ (call_isinstK (K := K) rfl) (by rfl) T.b_isinstance (by decide +kernel) (@pa_c _ _ _ _ _ (@pv _ 0 _ _ (by rfl) (by first | exact Or.inl rfl | exact Or.inr (Or.inl rfl) | exact Or.inr (Or.inr rfl)) (by decide) (by decide)) (@pa_c _ _ _ _ _ (@pe_type _ _ "tuple" _ rfl T.b_tuple (by decide +kernel) (by decide) (by decide)) (@pa_nil _) (by rfl)) (by rfl)) (by decide) (by decide) (by rfl) (by rfl)) (by intro _; rfl))) (@pw_or1 _ _ _ _ (@pt_cmpR _ _ _ _ _ _ _ _ (op_notIn_seqK (K := K) rfl) (@pe_callB _ _ _ _ _ _ _ _ _ (call_lenK (K := K) rfl) (by rfl) T.b_len (by decide +kernel) (@pa_c _ _ _ _ _ (@pv _ 0 _ _ (by rfl) (by first | exact Or.inl rfl | exact Or.inr (Or.inl rfl) | exact Or.inr (Or.inr rfl)) (by decide) (by decide)) (@pa_nil _) (by rfl)) (by decide) (by decide) (by rfl) (by rfl)) (@pe_tup _ _ _ _ _ (@pa_c _ _ _ _ _ (@pe_int _ _ _ _) (@pa_c _ _ _ _ _ (@pe_int _ _ _ _) (@pa_nil _) (by rfl)) (by rfl))) (by rfl))))) (@pss_one _ _ _ (@ps_ret _ _ _ _ (@pe_str _ _ _ _))) (@pss_nil _)) 
      (@pss_cons _ _ _ _ _ (@ps_if _ _ _ _ _ _ _ _ (@pt_not _ _ _ _ (@pt_val _ _ _ (@pe_fun _ _ _ _ _ _ _ _ _ _ _ c_is_name hr (@pa_c _ _ _ _ _ (@pe_ix _ _ _ _ _ _ _ (ix_tupK (K := K) rfl) (@pv _ 0 _ _ (by rfl) (by first | exact Or.inl rfl | exact Or.inr (Or.inl rfl) | exact Or.inr (Or.inr rfl)) (by decide) (by decide)) (@pe_int _ _ _ _) (fun _ _ => rfl)) (@pa_nil _) (by rfl)) (by rfl) (by decide) (by decide) (by rfl) (by rfl)) (by intro _; rfl))) (@pss_one _ _ _ (@ps_ret _ _ _ _ (@pe_str _ _ _ _))) (@pss_nil _)) 
      (@pss_cons _ _ _ _ _ (@ps_if _ _ _ _ _ _ _ _ (@pt_cmpR _ _ _ _ _ _ _ _ (op_inT (K := K) hr rfl) (@pe_ix _ _ _ _ _ _ _ (ix_tupK (K := K) rfl) (@pv _ 0 _ _ (by rfl) (by first | exact Or.inl rfl | exact Or.inr (Or.inl rfl) | exact Or.inr (Or.inr rfl)) (by decide) (by decide)) (@pe_int _ _ _ _) (fun _ _ => rfl)) (@pv _ 1 _ _ (by rfl) (by first | exact Or.inl rfl | exact Or.inr (Or.inl rfl) | exact Or.inr (Or.inr rfl)) (by decide) (by decide)) (by rfl)) (@pss_one _ _ _ (@ps_ret _ _ _ _ (@pe_str _ _ _ _))) (@pss_nil _)) 
      (@pss_cons _ _ _ _ _ (@ps_if _ _ _ _ _ _ _ _ (@pt_not _ _ _ _ (@pt_val _ _ _ (@pe_fun _ _ _ _ _ _ _ _ _ _ _ c_is_within hr (@pa_c _ _ _ _ _ (@pe_ix _ _ _ _ _ _ _ (ix_tupK (K := K) rfl) (@pv _ 0 _ _ (by rfl) (by first | exact Or.inl rfl | exact Or.inr (Or.inl rfl) | exact Or.inr (Or.inr rfl)) (by decide) (by decide)) (@pe_int _ _ _ _) (fun _ _ => rfl)) (@pa_c _ _ _ _ _ (@pe_int _ _ _ _) (@pa_c _ _ _ _ _ (@pe_op _ _ _ _ _ _ _ _ op_add (@pe_gc _ _ _ _ T.g_LAST_TURN (by rfl) (by decide)) (@pe_int _ _ _ _)) (@pa_nil _) (by rfl)) (by rfl)) (by rfl)) (by rfl) (by decide) (by decide) (by rfl) (by rfl)) (by intro _; rfl))) (@pss_one _ _ _ (@ps_ret _ _ _ _ (@pe_str _ _ _ _))) (@pss_nil _)) 
      (@pss_cons _ _ _ _ _ (@ps_if _ _ _ _ _ _ _ _ (@pt_not _ _ _ _ (@pt_val _ _ _ (@pe_fun _ _ _ _ _ _ _ _ _ _ _ c_is_within hr (@pa_c _ _ _ _ _ (@pe_ix _ _ _ _ _ _ _ (ix_tupK (K := K) rfl) (@pv _ 0 _ _ (by rfl) (by first | exact Or.inl rfl | exact Or.inr (Or.inl rfl) | exact Or.inr (Or.inr rfl)) (by decide) (by decide)) (@pe_int _ _ _ _) (fun _ _ => rfl)) (@pa_c _ _ _ _ _ (@pe_callB _ _ _ _ _ _ _ _ _ (call_max2 rfl) (by rfl) T.b_max (by decide +kernel) (@pa_c _ _ _ _ _ (@pe_int _ _ _ _) (@pa_c _ _ _ _ _ (@pe_op _ _ _ _ _ _ _ _ op_sub (@pe_ix _ _ _ _ _ _ _ (ix_tupK (K := K) rfl) (@pv _ 0 _ _ (by rfl) (by first | exact Or.inl rfl | exact Or.inr (Or.inl rfl) | exact Or.inr (Or.inr rfl)) (by decide) (by decide)) (@pe_int _ _ _ _) (fun _ _ => rfl)) (@pe_int _ _ _ _)) (@pa_nil _) (by rfl)) (by rfl)) (by decide) (by decide) (by rfl) (by rfl)) (@pa_c _ _ _ _ _ (@pe_gc _ _ _ _ T.g_LAST_TURN (by rfl) (by decide)) (@pa_nil _) (by rfl)) (by rfl)) (by rfl)) (by rfl) (by decide) (by decide) (by rfl) (by rfl)) (by intro _; rfl))) (@pss_one _ _ _ (@ps_ret _ _ _ _ (@pe_str _ _ _ _))) (@pss_nil _)) 
      (@pss_cons _ _ _ _ _ (@ps_if _ _ _ _ _ _ _ _ (@pt_not _ _ _ _ (@pt_val _ _ _ (@pe_fun _ _ _ _ _ _ _ _ _ _ _ c_is_within hr (@pa_c _ _ _ _ _ (@pe_ix _ _ _ _ _ _ _ (ix_tupK (K := K) rfl) (@pv _ 0 _ _ (by rfl) (by first | exact Or.inl rfl | exact Or.inr (Or.inl rfl) | exact Or.inr (Or.inr rfl)) (by decide) (by decide)) (@pe_int _ _ _ _) (fun _ _ => rfl)) (@pa_c _ _ _ _ _ (@pe_int _ _ _ _) (@pa_c _ _ _ _ _ (@pe_gc _ _ _ _ T.g_MOST_LENGTH (by rfl) (by decide)) (@pa_nil _) (by rfl)) (by rfl)) (by rfl)) (by rfl) (by decide) (by decide) (by rfl) (by rfl)) (by intro _; rfl))) (@pss_one _ _ _ (@ps_ret _ _ _ _ (@pe_str _ _ _ _))) (@pss_nil _)) 
      (@pss_cons _ _ _ _ _ (@ps_if _ _ _ _ _ _ _ _ (@PW.pt _ _ _ (@pw_and _ _ _ _ _ _ _ (@pt_cmpR _ _ _ _ _ _ _ _ op_eq (@pe_callB _ _ _ _ _ _ _ _ _ (call_lenK (K := K) rfl) (by rfl) T.b_len (by decide +kernel) (@pa_c _ _ _ _ _ (@pv _ 0 _ _ (by rfl) (by first | exact Or.inl rfl | exact Or.inr (Or.inl rfl) | exact Or.inr (Or.inr rfl)) (by decide) (by decide)) (@pa_nil _) (by rfl)) (by decide) (by decide) (by rfl) (by rfl)) (@pe_int _ _ _ _) (nomark _)) (@pw_and1 _ _ _ _ (@pt_not _ _ _ _ (@pt_val _ _ _ (@pe_fun _ _ _ _ _ _ _ _ _ _ _ c_is_within hr (@pa_c _ _ _ _ _ (@pe_ix _ _ _ _ _ _ _ (ix_tupK (K := K) rfl) (@pv _ 0 _ _ (by rfl) (by first | exact Or.inl rfl | exact Or.inr (Or.inl rfl) | exact Or.inr (Or.inr rfl)) (by decide) (by decide)) (@pe_int _ _ _ _) (fun _ _ => rfl)) (@pa_c _ _ _ _ _ (@pe_int _ _ _ _) (@pa_c _ _ _ _ _ (@pe_ix _ _ _ _ _ _ _ (ix_tupK (K := K) rfl) (@pv _ 0 _ _ (by rfl) (by first | exact Or.inl rfl | exact Or.inr (Or.inl rfl) | exact Or.inr (Or.inr rfl)) (by decide) (by decide)) (@pe_int _ _ _ _) (fun _ _ => rfl)) (@pa_nil _) (by rfl)) (by rfl)) (by rfl)) (by rfl) (by decide) (by decide) (by rfl) (by rfl)) (by intro _; rfl)))))) (@pss_one _ _ _ (@ps_ret _ _ _ _ (@pe_str _ _ _ _))) (@pss_nil _)) 
      (@pss_one _ _ _ (@ps_ret _ _ _ _ (@pe_non _ _ _)))))))))), ?_⟩
    refine ⟨_, rfl, _, _, _, _, rfl, ht, kit_tup ht, _, rfl, ?_⟩
    cases ei : itemsOf H x with
    | none =>
      have e : faultV H ss x = some ("form" : Str) := by unfold faultV; rw [ei]
      rw [e] at k
      exact iteT (iteT (k H (Same.refl H)))
    | some xs =>
      obtain ⟨a, rfl, ha⟩ := items_at ei
      have hi := hi xs ei
      have ef : faultV H ss (.ref a) = faultL ss xs := by unfold faultV; rw [ei]
      rw [ef] at k
      refine iteF ?_
      refine ⟨_, rfl, _, _, rfl, .inr ⟨_, SqT.of ha, rfl⟩, ?_⟩
      refine ⟨(by show 2 ≤ sizeLine; decide), fun p1 n1 => ?_⟩
      generalize e1 : upd H p1 _ = H1
      have s1 := upd_sm e1 n1
      refine ⟨p1, _, rfl, .inr (SqT.of (upd_at e1)), rfl, rfl, _, rfl, ?_⟩
      rw [in45]
      by_cases h45 : xs.length = 4 ∨ xs.length = 5
      · have eb : (!(decide (xs.length = 4) || decide (xs.length = 5))) = false := by rcases h45 with h | h <;> simp [h]
        rw [eb]
        refine iteF ?_
        obtain ⟨a0, a1, a2, a3, r, rfl, hr1⟩ : ∃ a0 a1 a2 a3 r, xs = a0 :: a1 :: a2 :: a3 :: r ∧ r.length ≤ 1 := by
          match xs, h45 with
          | [a0, a1, a2, a3], _ => exact ⟨a0, a1, a2, a3, [], rfl, by decide⟩
          | [a0, a1, a2, a3, a4], _ => exact ⟨a0, a1, a2, a3, [a4], rfl, by simp⟩
        have i0 := hi a0 (by simp)
        have i1 := hi a1 (by simp)
        have i2 := hi a2 (by simp)
        have i3 := hi a3 (by simp)
        have g1 := s1 _ _ ha
        obtain ⟨T0, t0⟩ := (i0.same s1).1
        have k4 : ∀ z, fault4 ss a0 a1 a2 a3 = some z → faultL ss (a0 :: a1 :: a2 :: a3 :: r) = some z := by
          intro z hz
          match r, hr1 with
          | [], _ => exact hz
          | [a4], _ => show (match fault4 ss a0 a1 a2 a3 with | some z => some z | none => _) = _; rw [hz]
        refine ⟨_, rfl, a, _, _, _, rfl, rfl, SqT.of g1, atI_nat (j := 0) rfl, _, _, rfl, t0, i0.2, fun H2 s2 => ⟨_, rfl, ?_⟩⟩
        cases en : isName a0 with
        | false =>
          rw [k4 "name" (by unfold fault4; rw [if_pos en])] at k
          exact iteT (k _ (s1.trans s2))
        | true =>
          refine iteF ?_
          obtain ⟨nm, rfl⟩ : ∃ nm, a0 = .str nm := by
            cases a0 with
            | str nm => exact ⟨nm, rfl⟩
            | _ => cases en
          have s2 := s1.trans s2
          have g2 := s2 _ _ ha
          refine ⟨_, rfl, a, _, _, _, rfl, rfl, SqT.of g2, atI_nat (j := 0) rfl, _, rfl, q, ss, rfl, .inl (SqL.of (s2 _ _ hq)), .inl rfl, _, rfl, ?_⟩
          cases ed : (ss.any fun z => eqS z (.str nm)) with
          | true =>
            rw [k4 "double" (by unfold fault4; rw [if_neg (by rw [en]; decide), if_pos ed])] at k
            exact iteT (k _ s2)
          | false =>
            refine iteF ?_
            obtain ⟨T1, t1⟩ := (i1.same s2).1
            refine ⟨_, rfl, a, _, _, _, rfl, rfl, SqT.of g2, atI_nat (j := 1) rfl, _, _, rfl, rfl, _, _, _, _, rfl, t1, _, rfl, ?_⟩
            cases ew : within a1 0 (199 + 1) with
            | false =>
              rw [k4 "first" (by unfold fault4; rw [if_neg (by rw [en]; decide), if_neg (by rw [ed]; decide), if_pos ew])] at k
              exact iteT (k _ s2)
            | true =>
              refine iteF ?_
              obtain ⟨b1, rfl⟩ : ∃ b1, a1 = .int b1 := by
                cases a1 with
                | int b1 => exact ⟨b1, rfl⟩
                | _ => cases ew
              obtain ⟨T2, t2⟩ := (i2.same s2).1
              refine ⟨_, rfl, a, _, _, _, rfl, rfl, SqT.of g2, atI_nat (j := 2) rfl, _, rfl, a, _, _, _, rfl, rfl, SqT.of g2, atI_nat (j := 1) rfl, _, _, rfl, rfl, _, _, rfl, _, _, _, _, rfl, t2, _, rfl, ?_⟩
              show if (!within a2 (mx1 (b1 - 1)) 199) = true then _ else _
              cases el : within a2 (mx1 (b1 - 1)) 199 with
              | false =>
                rw [k4 "last" (by unfold fault4; rw [if_neg (by rw [en]; decide), if_neg (by rw [ed]; decide), if_neg (by rw [ew]; decide), if_pos (show within a2 (mx1 (iV (V.int b1) - 1)) 199 = false from el)])] at k
                exact iteT (k _ s2)
              | true =>
                refine iteF ?_
                obtain ⟨T3, t3⟩ := (i3.same s2).1
                refine ⟨_, rfl, a, _, _, _, rfl, rfl, SqT.of g2, atI_nat (j := 3) rfl, _, _, _, _, rfl, t3, _, rfl, ?_⟩
                cases eg : within a3 1 12 with
                | false =>
                  rw [k4 "length" (by unfold fault4; rw [if_neg (by rw [en]; decide), if_neg (by rw [ed]; decide), if_neg (by rw [ew]; decide), if_neg (by rw [show within a2 (mx1 (iV (V.int b1) - 1)) 199 = true from el]; decide), if_pos eg])] at k
                  exact iteT (k _ s2)
                | true =>
                  refine iteF ?_
                  obtain ⟨b3, rfl⟩ : ∃ b3, a3 = .int b3 := by
                    cases a3 with
                    | int b3 => exact ⟨b3, rfl⟩
                    | _ => cases eg
                  have e4 : fault4 ss (.str nm) (.int b1) a2 (.int b3) = none := by
                    unfold fault4
                    rw [if_neg (by rw [en]; decide), if_neg (by rw [ed]; decide), if_neg (by rw [ew]; decide), if_neg (by rw [show within a2 (mx1 (iV (V.int b1) - 1)) 199 = true from el]; decide), if_neg (by rw [eg]; decide)]
                  refine ⟨_, rfl, _, _, rfl, .inr ⟨_, SqT.of g2, rfl⟩, rfl, _, rfl, ?_⟩
                  match r, hr1 with
                  | [], _ =>
                    have e : faultL ss [.str nm, .int b1, a2, .int b3] = none := e4
                    rw [e] at k
                    exact iteF (iteF (k _ s2))
                  | [a4], _ =>
                    have e : faultL ss [.str nm, .int b1, a2, .int b3, a4] = if within a4 0 b3 = false then some ("left" : Str) else none := by
                      show (match fault4 ss (.str nm) (.int b1) a2 (.int b3) with | some z => some z | none => _) = _
                      rw [e4]
                      rfl
                    rw [e] at k
                    obtain ⟨T4, t4⟩ := ((hi a4 (by simp)).same s2).1
                    refine iteT ?_
                    refine ⟨_, rfl, a, _, _, _, rfl, rfl, SqT.of g2, atI_nat (j := 4) rfl, _, rfl, a, _, _, _, rfl, rfl, SqT.of g2, atI_nat (j := 3) rfl, _, _, _, _, rfl, t4, _, rfl, ?_⟩
                    cases ef : within a4 0 b3 with
                    | false =>
                      rw [if_pos ef] at k
                      exact iteT (k _ s2)
                    | true =>
                      rw [if_neg (by rw [ef]; decide)] at k
                      exact iteF (k _ s2)
      · have eb : (!(decide (xs.length = 4) || decide (xs.length = 5))) = true := by
          simp only [not_or] at h45
          simp [h45.1, h45.2]
        rw [eb]
        have e : faultL ss xs = some ("form" : Str) := by
          match xs, h45 with
          | [], _ => rfl
          | [_], _ => rfl
          | [_, _], _ => rfl
          | [_, _, _], _ => rfl
          | [_, _, _, _], h => exact absurd (.inl rfl) h
          | [_, _, _, _, _], h => exact absurd (.inr rfl) h
          | _ :: _ :: _ :: _ :: _ :: _ :: _, _ => rfl
        rw [e] at k
        exact iteT (k H1 s1)
abbrev s_whole_row : Stmt := top 18
theorem sc_whole_row : FnScope ["row", "left"] ["row"] (defScope s_whole_row) := ⟨rfl, rfl, rfl, by decide +kernel, rfl, by decide +kernel, by decide +kernel⟩
theorem ok_whole_row {f : Addr} {fd : FuncData} (F : Fun K "whole_row" "whole_row" s_whole_row f fd) (T : Txt K mg D)  : FnOk P w K mg base CX0 1 f fd ["row"] (sp_whole_row) := by
  refine F.ok sc_whole_row (fun vs H Q E h => ?_) (fun cdv A outer s H vs Q E hr h => ?_)
  · obtain ⟨a, a0, a1, a2, a3, r, rfl, ha, hr1, k⟩ := h
    rfl
  · obtain ⟨a, a0, a1, a2, a3, r, rfl, ha, hr1, k⟩ := h
    refine ⟨_, (@pss_cons _ _ _ _ _ (@ps_set _ _ 1 _ _ _ _ sc_whole_row.nd rfl (by first | exact Or.inl rfl | exact Or.inr rfl) (@pe_ifExp _ _ _ _ _ _ _ _ (@pt_cmpR _ _ _ _ _ _ _ _ op_eq (@pe_callB _ _ _ _ _ _ _ _ _ (call_lenK (K := K) rfl) (by rfl) T.b_len (by decide +kernel) (@pa_c _ _ _ _ _ (@pv _ 0 _ _ (by rfl) (by first | exact Or.inl rfl | exact Or.inr (Or.inl rfl) | exact Or.inr (Or.inr rfl)) (by decide) (by decide)) (@pa_nil _) (by rfl)) (by decide) (by decide) (by rfl) (by rfl)) (@pe_int _ _ _ _) (nomark _)) (@pe_ix _ _ _ _ _ _ _ (ix_tupK (K := K) rfl) (@pv _ 0 _ _ (by rfl) (by first | exact Or.inl rfl | exact Or.inr (Or.inl rfl) | exact Or.inr (Or.inr rfl)) (by decide) (by decide)) (@pe_int _ _ _ _) (fun _ _ => rfl)) (@pe_ix _ _ _ _ _ _ _ (ix_tupK (K := K) rfl) (@pv _ 0 _ _ (by rfl) (by first | exact Or.inl rfl | exact Or.inr (Or.inl rfl) | exact Or.inr (Or.inr rfl)) (by decide) (by decide)) (@pe_int _ _ _ _) (fun _ _ => rfl))) (by rfl) (by first | exact .inl rfl | exact .inr rfl | assumption)) 
      (@pss_one _ _ _ (@ps_ret _ _ _ _ (@pe_tup _ _ _ _ _ (@pa_c _ _ _ _ _ (@pe_ix _ _ _ _ _ _ _ (ix_tupK (K := K) rfl) (@pv _ 0 _ _ (by rfl) (by first | exact Or.inl rfl | exact Or.inr (Or.inl rfl) | exact Or.inr (Or.inr rfl)) (by decide) (by decide)) (@pe_int _ _ _ _) (fun _ _ => rfl)) (@pa_c _ _ _ _ _ (@pe_ix _ _ _ _ _ _ _ (ix_tupK (K := K) rfl) (@pv _ 0 _ _ (by rfl) (by first | exact Or.inl rfl | exact Or.inr (Or.inl rfl) | exact Or.inr (Or.inr rfl)) (by decide) (by decide)) (@pe_int _ _ _ _) (fun _ _ => rfl)) (@pa_c _ _ _ _ _ (@pe_ix _ _ _ _ _ _ _ (ix_tupK (K := K) rfl) (@pv _ 0 _ _ (by rfl) (by first | exact Or.inl rfl | exact Or.inr (Or.inl rfl) | exact Or.inr (Or.inr rfl)) (by decide) (by decide)) (@pe_int _ _ _ _) (fun _ _ => rfl)) (@pa_c _ _ _ _ _ (@pe_ix _ _ _ _ _ _ _ (ix_tupK (K := K) rfl) (@pv _ 0 _ _ (by rfl) (by first | exact Or.inl rfl | exact Or.inr (Or.inl rfl) | exact Or.inr (Or.inr rfl)) (by decide) (by decide)) (@pe_int _ _ _ _) (fun _ _ => rfl)) (@pa_c _ _ _ _ _ (@pv _ 1 _ _ (by rfl) (by first | exact Or.inl rfl | exact Or.inr (Or.inl rfl) | exact Or.inr (Or.inr rfl)) (by decide) (by decide)) (@pa_nil _) (by rfl)) (by rfl)) (by rfl)) (by rfl)) (by rfl)))))), ?_⟩
    refine ⟨_, rfl, _, _, rfl, .inr ⟨_, SqT.of ha, rfl⟩, rfl, _, rfl, ?_⟩
    match r, hr1 with
    | [], _ =>
      refine iteF ?_
      refine ⟨_, rfl, a, _, _, _, rfl, rfl, SqT.of ha, atI_nat (j := 3) rfl, _, rfl, a, _, _, _, rfl, rfl, SqT.of ha, atI_nat (j := 0) rfl, _, rfl, a, _, _, _, rfl, rfl, SqT.of ha, atI_nat (j := 1) rfl, _, rfl, a, _, _, _, rfl, rfl, SqT.of ha, atI_nat (j := 2) rfl,
        _, rfl, a, _, _, _, rfl, rfl, SqT.of ha, atI_nat (j := 3) rfl, _, rfl, (by show 5 ≤ sizeLine; decide), fun p1 n1 => ?_⟩
      exact k p1 _ (same_new n1) n1 upd_same
    | [a4], _ =>
      refine iteT ?_
      refine ⟨_, rfl, a, _, _, _, rfl, rfl, SqT.of ha, atI_nat (j := 4) rfl, _, rfl, a, _, _, _, rfl, rfl, SqT.of ha, atI_nat (j := 0) rfl, _, rfl, a, _, _, _, rfl, rfl, SqT.of ha, atI_nat (j := 1) rfl, _, rfl, a, _, _, _, rfl, rfl, SqT.of ha, atI_nat (j := 2) rfl,
        _, rfl, a, _, _, _, rfl, rfl, SqT.of ha, atI_nat (j := 3) rfl, _, rfl, (by show 5 ≤ sizeLine; decide), fun p1 n1 => ?_⟩
      exact k p1 _ (same_new n1) n1 upd_same
end

end K05

set_option Elab.async false
set_option linter.all false
set_option maxRecDepth 100000
set_option maxHeartbeats 4000000
namespace K05
open PySem L2
/-! ### rows that are pieces -/
def seqOf (H : Hp) : V → Option (List V)
  | .ref a => match H a with
    | some (.lst xs) => some xs
    | some (.tup xs) => some xs
    | _ => none
  | _ => none
def nameOf (H : Hp) (x : V) : Str := match itemsOf H x with
  | some (.str n :: _) => n
  | _ => ""
def rowL : List V → Row
  | [.str n, .int f, .int l, .int g] => ⟨n, f, l, g, g⟩
  | [.str n, .int f, .int l, .int g, .int r] => ⟨n, f, l, g, r⟩
  | _ => ⟨"", 0, 0, 0, 0⟩
def rowOf (H : Hp) (x : V) : Row := rowL ((itemsOf H x).getD [])
def goodF (H : Hp) : Nat → List Str → List V → Option (Nat × Str)
  | _, _, [] => none
  | i, ss, x :: xs => match faultV H ss x with
    | some z => some (i, z)
    | none => goodF H (i + 1) (ss ++ [(rowOf H x).n]) xs
def fltL (H : Hp) (xs : List V) : Option (V × Str) := if 30 < xs.length then some (.int 30, "many") else (goodF H 0 [] xs).map fun p => (.int p.1, p.2)
def fltOf (H : Hp) (x : V) : Option (V × Str) := match seqOf H x with
  | none => some (.non, "form")
  | some xs => fltL H xs
def rowsOf (H : Hp) (x : V) : List Row := ((seqOf H x).getD []).map (rowOf H)
/-- rows at their places -/
abbrev Rws := List (Addr × Row)
def refs (L : Rws) : List V := L.map fun p => .ref p.1
def TL (H : Hp) (L : Rws) : Prop := ∀ p ∈ L, H p.1 = some (.tup p.2.vs)
theorem TL.same {H H' : Hp} {L : Rws} (h : TL H L) (s : Same H H') : TL H' L := fun p hp => s _ _ (h p hp)
theorem TL.sameB {H H' : Hp} {L : Rws} {p : Addr} {xs : List V} (h : TL H L) (s : SameB p H H') (hp : H p = some (.lst xs)) : TL H' L := fun q hq => s _ _ (h q hq) (ne_of (h q hq) hp (by intro z; cases z))
theorem TL.app {H : Hp} {L : Rws} {p : Addr × Row} (h : TL H L) (hp : H p.1 = some (.tup p.2.vs)) : TL H (L ++ [p]) := fun q hq => by
  rcases List.mem_append.mp hq with hq | hq
  · exact h q hq
  · rw [List.mem_singleton.mp hq]; exact hp
def RowIn (K : PySem.W.Frag) (H : Hp) (y : V) : Prop := (∃ T, TyOf K H y (.type T)) ∧ ∀ xs, itemsOf H y = some xs → ∀ z ∈ xs, Itm K H z
theorem items_same {K : PySem.W.Frag} {H H' : Hp} {x : V} {T : String} (h : TyOf K H x (.type T)) (s : Same H H') : itemsOf H' x = itemsOf H x := by
  cases h with
  | lst h => rw [items_ref, items_ref, h, s _ _ h]
  | frz h => rw [items_ref, items_ref, h, s _ _ h]
  | tup h => rw [items_ref, items_ref, h, s _ _ h]
  | dK h => rw [items_ref, items_ref, h, s _ _ h]
  | dT h => rw [items_ref, items_ref, h, s _ _ h]
  | _ => rfl
theorem RowIn.same {K : PySem.W.Frag} {H H' : Hp} {y : V} (h : RowIn K H y) (s : Same H H') : RowIn K H' y := by
  obtain ⟨T, t⟩ := h.1
  refine ⟨⟨T, ty_same t s⟩, fun xs e z hz => (h.2 xs ?_ z hz).same s⟩
  rw [← items_same t s]
  exact e
theorem RowIn.flt {K : PySem.W.Frag} {H H' : Hp} {y : V} {ss : List Str} (h : RowIn K H y) (s : Same H H') : faultV H' ss y = faultV H ss y ∧ rowOf H' y = rowOf H y := by
  obtain ⟨T, t⟩ := h.1
  unfold faultV rowOf
  rw [items_same t s]
  exact ⟨rfl, rfl⟩
/-- what a good row is -/
theorem fault_none {H : Hp} {ss : List Str} {x : V} (h : faultV H ss x = none) : ∃ a nm f l g r, x = .ref a ∧ H a = some (.tup (.str nm :: .int f :: .int l :: .int g :: r)) ∧ r.length ≤ 1 ∧ rowOf H x = ⟨nm, f, l, g, iV (r.headD (.int g))⟩ ∧ r.headD (.int g) = .int (iV (r.headD (.int g))) := by
  unfold faultV at h
  cases ei : itemsOf H x with
  | none => rw [ei] at h; cases h
  | some xs =>
    rw [ei] at h
    obtain ⟨a, rfl, ha⟩ := items_at ei
    have key : ∀ a0 a1 a2 a3, fault4 ss a0 a1 a2 a3 = none → ∃ nm f l g, a0 = .str nm ∧ a1 = .int f ∧ a2 = .int l ∧ a3 = .int g := by
      intro a0 a1 a2 a3 q
      unfold fault4 at q
      split at q
      · cases q
      · rename_i h0
        split at q
        · cases q
        · split at q
          · cases q
          · rename_i h1
            split at q
            · cases q
            · rename_i h2
              split at q
              · cases q
              · rename_i h3
                cases a0 <;> first | exact absurd rfl h0 | skip
                cases a1 <;> first | exact absurd rfl h1 | skip
                cases a2 <;> first | exact absurd rfl h2 | skip
                cases a3 <;> first | exact absurd rfl h3 | skip
                exact ⟨_, _, _, _, rfl, rfl, rfl, rfl⟩
    have er : rowOf H (.ref a) = rowL xs := by unfold rowOf; rw [ei]; rfl
    match xs, h with
    | [a0, a1, a2, a3], h =>
      obtain ⟨nm, f, l, g, rfl, rfl, rfl, rfl⟩ := key _ _ _ _ h
      exact ⟨a, nm, f, l, g, [], rfl, ha, by decide, er, rfl⟩
    | [a0, a1, a2, a3, a4], h =>
      have h4 : fault4 ss a0 a1 a2 a3 = none := by
        cases q : fault4 ss a0 a1 a2 a3 with
        | none => rfl
        | some z =>
          have h' : (match fault4 ss a0 a1 a2 a3 with | some z => some z | none => if within a4 0 (iV a3) = false then some ("left" : Str) else none) = none := h
          rw [q] at h'
          cases h'
      have h5 : (if within a4 0 (iV a3) = false then some ("left" : Str) else none) = none := by
        have h' : (match fault4 ss a0 a1 a2 a3 with | some z => some z | none => if within a4 0 (iV a3) = false then some ("left" : Str) else none) = none := h
        rw [h4] at h'
        exact h'
      obtain ⟨nm, f, l, g, rfl, rfl, rfl, rfl⟩ := key _ _ _ _ h4
      have : ∃ r, a4 = .int r := by
        split at h5
        · cases h5
        · rename_i h6
          cases a4 <;> first | exact absurd rfl h6 | exact ⟨_, rfl⟩
      obtain ⟨r, rfl⟩ := this
      exact ⟨a, nm, f, l, g, [.int r], rfl, ha, by simp, er, rfl⟩
    | [], h => cases h
    | [_], h => cases h
    | [_, _], h => cases h
    | [_, _, _], h => cases h
    | _ :: _ :: _ :: _ :: _ :: _ :: _, h => cases h
/-- a list or a tuple that is no longer walked over -/
structure SeqIn (K : PySem.W.Frag) (H : Hp) (x : V) : Prop where
  ty : ∃ T, TyOf K H x (.type T)
  nf : ∀ a o u, x = .ref a → H a ≠ some (.frz o u)
  it : ∀ xs, seqOf H x = some xs → xs.length ≤ 1000000 ∧ ∀ y ∈ xs, RowIn K H y
theorem seq_ref (H : Hp) (a : Addr) : seqOf H (.ref a) = match H a with | some (.lst xs) => some xs | some (.tup xs) => some xs | _ => none := rfl
theorem kit_seq {K : PySem.W.Frag} {H : Hp} {x : V} {T : String} (h : TyOf K H x (.type T)) (nf : ∀ a o u, x = .ref a → H a ≠ some (.frz o u)) : PySem.W.kitAny K (.type T) (["list", "tuple"].map Value.type) = some (seqOf H x).isSome := by
  cases h with
  | lst h => rw [seq_ref, h]; rfl
  | frz h => exact absurd h (nf _ _ _ rfl)
  | tup h => rw [seq_ref, h]; rfl
  | dK h => rw [seq_ref, h]; rfl
  | dT h => rw [seq_ref, h]; rfl
  | _ => rfl
theorem seq_at {H : Hp} {x : V} {xs : List V} (h : seqOf H x = some xs) : ∃ a, x = .ref a ∧ (H a = some (.lst xs) ∨ H a = some (.tup xs)) := by
  unfold seqOf at h
  split at h
  · rename_i a
    split at h
    · rename_i ys e
      cases h
      exact ⟨a, rfl, .inl e⟩
    · rename_i ys e
      cases h
      exact ⟨a, rfl, .inr e⟩
    · cases h
  · cases h
def sp_good (K : PySem.W.Frag) (D : Ad) : Sp := fun vs H Q E => ∃ x, vs = [x] ∧ SeqIn K H x ∧ (∀ at_ why, fltOf H x = some (at_, why) → RaiseX D.BadPieces [("at", at_), ("why", .str why)] H E) ∧
  (fltOf H x = none → ∀ t L H', Same H H' → H t = none → H' t = some (.tup (refs L)) → TL H' L → L.map (·.2) = rowsOf H x → Q (.ref t) H')
theorem goodF_step {H : Hp} {xs : List V} {i : Nat} {ss : List Str} {x : V} (h : xs[i]? = some x) : goodF H i ss (xs.drop i) = match faultV H ss x with | some z => some (i, z) | none => goodF H (i + 1) (ss ++ [(rowOf H x).n]) (xs.drop (i + 1)) := by
  have hl := (List.getElem?_eq_some_iff.mp h).1
  have e : xs.drop i = x :: xs.drop (i + 1) := by
    rw [List.drop_eq_getElem_cons hl]
    congr 1
    exact (List.getElem?_eq_some_iff.mp h).2
  rw [e]
  rfl
section
variable {P : Program} {w : World} {K : PySem.W.Frag} {mg : Str → Option Value} {base : Heap} {D : Ad}
abbrev s_good_rows : Stmt := top 19
theorem sc_good_rows : FnScope ["rows", "good", "ahead", "at", "row", "why"] ["rows"] (defScope s_good_rows) := ⟨rfl, rfl, rfl, by decide +kernel, rfl, by decide +kernel, by decide +kernel⟩
theorem ok_good_rows {f : Addr} {fd : FuncData} (F : Fun K "good_rows" "good_rows" s_good_rows f fd) (T : Txt K mg D) (c_whole_row : CalF P w K mg base 1 "whole_row" ["row"] (sp_whole_row)) (c_BadPieces : CalX P w K mg base 2 "BadPieces" D.BadPieces ["self", "at", "why"] (sp_two D.BadPieces "at" "why")) (c_fault_of : CalF P w K mg base 4 "fault_of" ["row", "ahead"] (sp_fault K)) : FnOk P w K mg base (CXF P w) 5 f fd ["rows"] (sp_good K D) := by
  refine F.okX sc_good_rows (fun vs H Q E h => ?_) (fun cdv A outer s H vs Q E hr h => ?_)
  · obtain ⟨x, rfl, hx, hE, hQ⟩ := h
    rfl
  · obtain ⟨x, rfl, hx, hE, hQ⟩ := h
    refine ⟨_, (@pss_cons _ _ _ _ _ (@ps_if _ _ _ _ _ _ _ _ (@pt_not _ _ _ _ (@pt_val _ _ _ (@pe_callB _ _ _ _ _ _ _ _ _ (call_isinstT (K := K) rfl) (by rfl) T.b_isinstance (by decide +kernel) (@pa_c _ _ _ _ _ (@pv _ 0 _ _ (by rfl) (by first | exact Or.inl rfl | exact Or.inr (Or.inl rfl) | exact Or.inr (Or.inr rfl)) (by decide) (by decide)) (@pa_c _ _ _ _ _ (@pe_tup _ _ _ _ _ (@pa_c _ _ _ _ _ (@pe_type _ _ "list" _ rfl T.b_list (by decide +kernel) (by decide) (by decide)) (@pa_c _ _ _ _ _ (@pe_type _ _ "tuple" _ rfl T.b_tuple (by decide +kernel) (by decide) (by decide)) (@pa_nil _) (by rfl)) (by rfl))) (@pa_nil _) (by rfl)) (by rfl)) (by decide) (by decide) (by rfl) (by rfl)) (by intro _; rfl))) (@pss_one _ _ _ (@ps_raise _ (fun _ E' => E' = E) _ _ _ _ (@pe_newx _ _ _ _ _ _ _ _ _ _ _ _ c_BadPieces hr (@pa_c _ _ _ _ _ (@pe_non _ _ _) (@pa_c _ _ _ _ _ (@pe_str _ _ _ _) (@pa_nil _) (by rfl)) (by rfl)) (by rfl) (by decide) (by decide) (by rfl) (by rfl)) hr (fun σ E' e => by cases e; exact lets_body σ))) (@pss_nil _)) 
      (@pss_cons _ _ _ _ _ (@ps_if _ _ _ _ _ _ _ _ (@pt_cmpR _ _ _ _ _ _ _ _ op_gt (@pe_callB _ _ _ _ _ _ _ _ _ (call_lenK (K := K) rfl) (by rfl) T.b_len (by decide +kernel) (@pa_c _ _ _ _ _ (@pv _ 0 _ _ (by rfl) (by first | exact Or.inl rfl | exact Or.inr (Or.inl rfl) | exact Or.inr (Or.inr rfl)) (by decide) (by decide)) (@pa_nil _) (by rfl)) (by decide) (by decide) (by rfl) (by rfl)) (@pe_gc _ _ _ _ T.g_MOST_PIECES (by rfl) (by decide)) (nomark _)) (@pss_one _ _ _ (@ps_raise _ (fun _ E' => E' = E) _ _ _ _ (@pe_newx _ _ _ _ _ _ _ _ _ _ _ _ c_BadPieces hr (@pa_c _ _ _ _ _ (@pe_gc _ _ _ _ T.g_MOST_PIECES (by rfl) (by decide)) (@pa_c _ _ _ _ _ (@pe_str _ _ _ _) (@pa_nil _) (by rfl)) (by rfl)) (by rfl) (by decide) (by decide) (by rfl) (by rfl)) hr (fun σ E' e => by cases e; exact lets_body σ))) (@pss_nil _)) 
      (@pss_cons _ _ _ _ _ (@ps_set _ _ 1 _ _ _ _ sc_good_rows.nd rfl (by first | exact Or.inl rfl | exact Or.inr rfl) (@pe_lst _ _ _ _ (@pa_nil _)) (by rfl) (by first | exact .inl rfl | exact .inr rfl | assumption)) 
      (@pss_cons _ _ _ _ _ (@ps_set _ _ 2 _ _ _ _ sc_good_rows.nd rfl (by first | exact Or.inl rfl | exact Or.inr rfl) (@pe_lst _ _ _ _ (@pa_nil _)) (by rfl) (by first | exact .inl rfl | exact .inr rfl | assumption)) 
      (@pss_cons _ _ _ _ _ (@ps_for _ _ _ _ _ _ _ _ PassesOwn.leaving rfl (@pi_enumX _ _ _ _ _ _ _ _ (by rfl) T.b_enumerate (@pa_c _ _ _ _ _ (@pv _ 0 _ _ (by rfl) (by first | exact Or.inl rfl | exact Or.inr (Or.inl rfl) | exact Or.inr (Or.inr rfl)) (by decide) (by decide)) (@pa_nil _) (by rfl)) (by rfl)) (@pg_tup _ _ _ _ _ _ (by rfl) (@pgs_cons _ _ _ _ _ (@pg_name _ _ 3 _ sc_good_rows.nd rfl (by first | exact Or.inl rfl | exact Or.inr rfl) (by first | exact .inl rfl | exact .inr rfl | assumption)) (@pgs_cons _ _ _ _ _ (@pg_name _ _ 4 _ sc_good_rows.nd rfl (by first | exact Or.inl rfl | exact Or.inr rfl) (by first | exact .inl rfl | exact .inr rfl | assumption)) (@pgs_nil _) (by rfl)) (by rfl)) (by rfl) (by rfl)) (@pss_cons _ _ _ _ _ (@ps_set _ _ 5 _ _ _ _ sc_good_rows.nd rfl (by first | exact Or.inl rfl | exact Or.inr rfl) (@pe_fun _ _ _ _ _ _ _ _ _ _ _ c_fault_of hr (@pa_c _ _ _ _ _ (@pv _ 4 _ _ (by rfl) (by first | exact Or.inl rfl | exact Or.inr (Or.inl rfl) | exact Or.inr (Or.inr rfl)) (by decide) (by decide)) (@pa_c _ _ _ _ _ (@pv _ 2 _ _ (by rfl) (by first | exact Or.inl rfl | exact Or.inr (Or.inl rfl) | exact Or.inr (Or.inr rfl)) (by decide) (by decide)) (@pa_nil _) (by rfl)) (by rfl)) (by rfl) (by decide) (by decide) (by rfl) (by rfl)) (by rfl) (by first | exact .inl rfl | exact .inr rfl | assumption)) 
      (@pss_cons _ _ _ _ _ (@ps_if _ _ _ _ _ _ _ _ (@pt_cmpR _ _ _ _ _ _ _ _ op_notN (@pv _ 5 _ _ (by rfl) (by first | exact Or.inl rfl | exact Or.inr (Or.inl rfl) | exact Or.inr (Or.inr rfl)) (by decide) (by decide)) (@pe_non _ _ _) (nomark _)) (@pss_one _ _ _ (@ps_raise _ (fun _ E' => E' = E) _ _ _ _ (@pe_newx _ _ _ _ _ _ _ _ _ _ _ _ c_BadPieces hr (@pa_c _ _ _ _ _ (@pv _ 3 _ _ (by rfl) (by first | exact Or.inl rfl | exact Or.inr (Or.inl rfl) | exact Or.inr (Or.inr rfl)) (by decide) (by decide)) (@pa_c _ _ _ _ _ (@pv _ 5 _ _ (by rfl) (by first | exact Or.inl rfl | exact Or.inr (Or.inl rfl) | exact Or.inr (Or.inr rfl)) (by decide) (by decide)) (@pa_nil _) (by rfl)) (by rfl)) (by rfl) (by decide) (by decide) (by rfl) (by rfl)) hr (fun σ E' e => by cases e; exact lets_body σ))) (@pss_nil _)) 
      (@pss_cons _ _ _ _ _ (@ps_expr _ _ _ _ (@pe_bm _ _ _ _ _ _ _ _ _ _ _ _ PySem.F.plainAttrs_list PySem.F.slot_list_append PySem.F.type_list_append mt_append (@pv _ 1 _ _ (by rfl) (by first | exact Or.inl rfl | exact Or.inr (Or.inl rfl) | exact Or.inr (Or.inr rfl)) (by decide) (by decide)) (@pa_c _ _ _ _ _ (@pe_fun _ _ _ _ _ _ _ _ _ _ _ c_whole_row hr (@pa_c _ _ _ _ _ (@pv _ 4 _ _ (by rfl) (by first | exact Or.inl rfl | exact Or.inr (Or.inl rfl) | exact Or.inr (Or.inr rfl)) (by decide) (by decide)) (@pa_nil _) (by rfl)) (by rfl) (by decide) (by decide) (by rfl) (by rfl)) (@pa_nil _) (by rfl)) (by rfl) (by rfl) (by rfl) (by rfl) (by rfl)) (by rfl)) 
      (@pss_one _ _ _ (@ps_expr _ _ _ _ (@pe_bm _ _ _ _ _ _ _ _ _ _ _ _ PySem.F.plainAttrs_list PySem.F.slot_list_append PySem.F.type_list_append mt_append (@pv _ 2 _ _ (by rfl) (by first | exact Or.inl rfl | exact Or.inr (Or.inl rfl) | exact Or.inr (Or.inr rfl)) (by decide) (by decide)) (@pa_c _ _ _ _ _ (@pe_ix _ _ _ _ _ _ _ (ix_tupK (K := K) rfl) (@pv _ 4 _ _ (by rfl) (by first | exact Or.inl rfl | exact Or.inr (Or.inl rfl) | exact Or.inr (Or.inr rfl)) (by decide) (by decide)) (@pe_int _ _ _ _) (fun _ _ => rfl)) (@pa_nil _) (by rfl)) (by rfl) (by rfl) (by rfl) (by rfl) (by rfl)) (by rfl)))))) (by intro _; rfl)) 
      (@pss_one _ _ _ (@ps_ret _ _ _ _ (@pe_callTy _ _ _ _ _ _ _ _ _ call_tuple_of (by rfl) T.b_tuple (by decide +kernel) (@pa_c _ _ _ _ _ (@pv _ 1 _ _ (by rfl) (by first | exact Or.inl rfl | exact Or.inr (Or.inl rfl) | exact Or.inr (Or.inr rfl)) (by decide) (by decide)) (@pa_nil _) (by rfl)) (by decide) (by decide) (by rfl) (by rfl))))))))), ?_⟩
    obtain ⟨Ty, ht⟩ := hx.ty
    refine ⟨_, rfl, (by show 2 ≤ sizeLine; decide), fun p1 n1 => ?_⟩
    generalize e1 : upd H p1 _ = H1
    have s1 := upd_sm e1 n1
    refine ⟨x, ["list", "tuple"], p1, Ty, _, rfl, upd_at e1, ty_same ht s1, kit_seq ht hx.nf, _, rfl, ?_⟩
    cases es : seqOf H x with
    | none =>
      refine iteT ?_
      refine fun a na => ⟨a, _, _, rfl, upd_same, fun d H2 sb hd e0 f0 => ⟨rfl, a, _, _, _, rfl, e0, T.x_BadPieces, rfl, ?_⟩⟩
      refine (RaiseX.mono (hE .non "form" ?_) s1).go na sb hd e0 f0
      unfold fltOf
      rw [es]
    | some xs =>
      refine iteF ?_
      obtain ⟨a, rfl, hs⟩ := seq_at es
      obtain ⟨hlen, hrow⟩ := hx.it xs es
      have hfl : fltOf H (.ref a) = fltL H xs := by unfold fltOf; rw [es]
      have hro : rowsOf H (.ref a) = xs.map (rowOf H) := by unfold rowsOf; rw [es]; rfl
      rw [hfl] at hE hQ
      rw [hro] at hQ
      have hs1 : H1 a = some (.lst xs) ∨ H1 a = some (.tup xs) := hs.imp (s1 _ _) (s1 _ _)
      have hL : LenV K (.ref a) H1 xs.length := hs1.elim (fun h => .inl ⟨_, SqL.of h, rfl⟩) (fun h => .inr ⟨_, SqT.of h, rfl⟩)
      refine ⟨_, rfl, _, _, rfl, hL, _, _, rfl, rfl, _, rfl, ?_⟩
      by_cases h30 : 30 < xs.length
      · rw [decide_eq_true (show (30 : Int) < (xs.length : Nat) by omega)]
        refine iteT ?_
        refine fun a na => ⟨a, _, _, rfl, upd_same, fun d H2 sb hd e0 f0 => ⟨rfl, a, _, _, _, rfl, e0, T.x_BadPieces, rfl, ?_⟩⟩
        refine (RaiseX.mono (hE (.int 30) "many" ?_) s1).go na sb hd e0 f0
        unfold fltL
        rw [if_pos h30]
      · rw [decide_eq_false (show ¬ (30 : Int) < (xs.length : Nat) by omega)]
        refine iteF ?_
        have hfl2 : fltL H xs = (goodF H 0 [] xs).map fun p => (V.int p.1, p.2) := by unfold fltL; rw [if_neg h30]
        rw [hfl2] at hE hQ
        refine ⟨(by show 0 ≤ sizeLine; decide), fun gp ng => ?_⟩
        generalize f1 : upd H1 gp _ = G1
        have t1 := upd_sm f1 ng
        refine ⟨(by show 0 ≤ sizeLine; decide), fun ap na => ?_⟩
        generalize f2 : upd G1 ap _ = G2
        have t2 := upd_sm f2 na
        have gneap : gp ≠ ap := fun q => by
          rw [← q, upd_at f1] at na
          cases na
        refine ⟨_, rfl, a, rfl, for_enumX (K := K) (a := a) (xs := xs) (fun i σ H2 => ∃ (L : Rws) (v3 v4 v5 : Option V), σ = [some (.ref a), some (.ref gp), some (.ref ap), v3, v4, v5] ∧ Same H1 H2 ∧ H2 gp = some (.lst (refs L)) ∧ H2 ap = some (.lst ((L.map (·.2.n)).map V.str)) ∧
          TL H2 L ∧ L.map (·.2) = (xs.take i).map (rowOf H) ∧ goodF H 0 [] xs = goodF H i (L.map (·.2.n)) (xs.drop i)) ⟨[], none, none, none, rfl, t1.trans t2, t2 _ _ (upd_at f1), upd_at f2, fun p hp => (by cases hp), rfl, rfl⟩ ?_ ?_ ?_⟩
        · rcases hs1 with h | h
          · exact .inl fun i σ H2 _ ⟨L, v3, v4, v5, _, sm, _⟩ => SqL.of (sm _ _ h)
          · exact .inr fun i σ H2 _ ⟨L, v3, v4, v5, _, sm, _⟩ => SqT.of (sm _ _ h)
        · rintro i y T1 σ H2 hy ⟨L, v3, v4, v5, rfl, sm, hg, ha, tl, er, eg⟩ nT
          have hym : y ∈ xs := List.mem_of_getElem? hy
          have hri := hrow y hym
          refine ⟨T1, _, rfl, SqT.of upd_same, rfl, _, _, rfl, _, _, rfl, rfl, ?_⟩
          generalize e3 : upd H2 T1 _ = H3
          have s3 := upd_sm e3 nT
          have sH3 : Same H H3 := (s1.trans sm).trans s3
          obtain ⟨Ty3, t3⟩ := (hri.same sH3).1
          refine ⟨_, rfl, _, rfl, y, ap, L.map (·.2.n), Ty3, rfl, s3 _ _ ha, t3, (hri.same sH3).2, fun H4 s4 => ?_⟩
          rw [(hri.flt sH3).1]
          have sH4 := sH3.trans s4
          have hg4 := s4 _ _ (s3 _ _ hg)
          have ha4 := s4 _ _ (s3 _ _ ha)
          have tl4 := (tl.same s3).same s4
          have st := goodF_step (H := H) (ss := L.map (·.2.n)) hy
          refine ⟨_, rfl, rfl, _, rfl, ?_⟩
          cases ef : faultV H (L.map (·.2.n)) y with
          | some z =>
            rw [ef] at st
            refine iteT ?_
            refine ⟨_, rfl, _, rfl, fun b nb => ⟨b, _, _, rfl, upd_same, fun d H5 sb hd e0 f0 => ⟨rfl, b, _, _, _, rfl, e0, T.x_BadPieces, rfl, ?_⟩⟩⟩
            refine (RaiseX.mono (hE (.int i) z ?_) sH4).go nb sb hd e0 f0
            rw [eg, st]
            rfl
          | none =>
            rw [ef] at st
            refine iteF ?_
            obtain ⟨b, nm, f0, l0, g0, r0, rfl, hb, hr1, erow, ehd⟩ := fault_none ef
            have hb4 := sH4 _ _ hb
            refine ⟨_, rfl, .inl ⟨rfl, _, SqL.of hg4⟩, _, rfl, b, _, _, _, _, r0, rfl, hb4, hr1, fun p5 H5 s5 n5 e5 => ?_⟩
            rw [ehd] at e5
            refine ⟨gp, _, _, rfl, rfl, s5 _ _ hg4, ?_, ?_⟩
            · unfold refs
              rw [List.length_map]
              have e := congrArg List.length er
              rw [List.length_map, List.length_map, List.length_take] at e
              exact small1000 (by omega)
            generalize e6 : upd H5 gp _ = H6
            have sb6 : SameB gp H5 H6 := by rw [← e6]; exact sameB_upd
            have hgp5 := s5 _ _ hg4
            have ha6 : H6 ap = _ := sb6 _ _ (s5 _ _ ha4) (Ne.symm gneap)
            have hb6 : H6 b = _ := sb6 _ _ (s5 _ _ hb4) (ne_of (s5 _ _ hb4) hgp5 (by intro z; cases z))
            refine ⟨_, rfl, .inl ⟨rfl, _, SqL.of ha6⟩, _, rfl, b, _, _, _, rfl, rfl, SqT.of hb6, atI_nat (j := 0) rfl, ap, _, _, rfl, rfl, ha6, ?_, ?_⟩
            · rw [List.length_map, List.length_map]
              have e := congrArg List.length er
              rw [List.length_map, List.length_map, List.length_take] at e
              exact small1000 (by omega)
            generalize e7 : upd H6 ap _ = H7
            have sb7 : SameB ap H6 H7 := by rw [← e7]; exact sameB_upd
            have n45 : Same H1 H5 := (sm.trans s3).trans (s4.trans s5)
            refine ⟨L ++ [(p5, rowOf H (.ref b))], _, _, _, rfl, fun c o hc => ?_, ?_, ?_, ?_, ?_, ?_⟩
            · have hcg : c ≠ gp := ne_of_none hc ng
              have hca : c ≠ ap := ne_of_none (t1 _ _ hc) na
              exact sb7 _ _ (sb6 _ _ (n45 _ _ hc) hcg) hca
            · have : H6 gp = some (.lst (refs L ++ [V.ref p5])) := upd_at e6
              rw [sb7 _ _ this gneap]
              simp [refs]
            · rw [upd_at e7, erow]
              simp
            · have tl7 : TL H7 L := (((tl4.same s5).sameB sb6 hgp5).sameB sb7 ha6)
              refine tl7.app ?_
              have n5g : p5 ≠ gp := (ne_of_none hg4 n5).symm
              have n5a : p5 ≠ ap := (ne_of_none ha4 n5).symm
              show H7 p5 = some (.tup (rowOf H (.ref b)).vs)
              rw [sb7 _ _ (sb6 _ _ e5 n5g) n5a, erow]
              rfl
            · rw [List.map_append, er, List.take_add_one, hy]
              simp
            · rw [eg, st]
              simp
        · rintro σ H2 ⟨L, v3, v4, v5, rfl, sm, hg, ha, tl, er, eg⟩
          have hno : goodF H 0 [] xs = none := by
            rw [eg, List.drop_length]
            rfl
          rw [hno] at hQ
          refine ⟨_, rfl, gp, _, rfl, .inl ⟨SqL.of hg, fun t nt => ?_⟩⟩
          refine hQ rfl t L _ ((s1.trans sm).trans (same_new nt)) ((s1.trans sm).none nt) upd_same (tl.same (same_new nt)) ?_
          rw [er, List.take_length]
end

end K05

set_option Elab.async false
set_option linter.all false
set_option maxRecDepth 100000
set_option maxHeartbeats 4000000
namespace K05
open PySem L2
/-! ### pieces -/
def PO (H : Hp) (D : Ad) (o t : Addr) (L : Rws) : Prop := (∃ d, H o = some (.ins D.Pieces d [("held", .ref t)])) ∧ H t = some (.tup (refs L)) ∧ TL H L
theorem lk_one {n : Str} {v : V} {r : List (Str × V)} : List.lookup n ((n, v) :: r) = some v := by simp [List.lookup]
theorem seq_same {K : PySem.W.Frag} {H H' : Hp} {x : V} {T : String} (h : TyOf K H x (.type T)) (s : Same H H') : seqOf H' x = seqOf H x := by
  cases h with
  | lst h => rw [seq_ref, seq_ref, h, s _ _ h]
  | frz h => rw [seq_ref, seq_ref, h, s _ _ h]
  | tup h => rw [seq_ref, seq_ref, h, s _ _ h]
  | dK h => rw [seq_ref, seq_ref, h, s _ _ h]
  | dT h => rw [seq_ref, seq_ref, h, s _ _ h]
  | _ => rfl
theorem good_same {K : PySem.W.Frag} {H H' : Hp} (s : Same H H') : ∀ {xs : List V} {i : Nat} {ss : List Str}, (∀ y ∈ xs, RowIn K H y) → goodF H' i ss xs = goodF H i ss xs
  | [], _, _, _ => rfl
  | x :: xs, i, ss, h => by
    have q := (h x List.mem_cons_self).flt (ss := ss) s
    unfold goodF
    rw [q.1, q.2]
    cases faultV H ss x with
    | some z => rfl
    | none => exact good_same s fun y hy => h y (List.mem_cons_of_mem _ hy)
theorem SeqIn.same {K : PySem.W.Frag} {H H' : Hp} {x : V} (h : SeqIn K H x) (s : Same H H') : SeqIn K H' x := by
  obtain ⟨T, t⟩ := h.ty
  refine ⟨⟨T, ty_same t s⟩, fun a o u e q => ?_, fun xs e => ?_⟩
  · subst e
    have z : ∃ v, H a = some v := by
      cases t with
      | lst h => exact ⟨_, h⟩
      | frz h => exact ⟨_, h⟩
      | tup h => exact ⟨_, h⟩
      | dK h => exact ⟨_, h⟩
      | dT h => exact ⟨_, h⟩
    obtain ⟨v, hv⟩ := z
    rw [s _ _ hv] at q
    exact h.nf a o u rfl (hv.trans q)
  · rw [seq_same t s] at e
    exact ⟨(h.it xs e).1, fun y hy => ((h.it xs e).2 y hy).same s⟩
theorem SeqIn.flt {K : PySem.W.Frag} {H H' : Hp} {x : V} (h : SeqIn K H x) (s : Same H H') : fltOf H' x = fltOf H x ∧ rowsOf H' x = rowsOf H x := by
  obtain ⟨T, t⟩ := h.ty
  unfold fltOf rowsOf
  rw [seq_same t s]
  cases e : seqOf H x with
  | none => exact ⟨rfl, rfl⟩
  | some xs =>
    have hx := (h.it xs e).2
    refine ⟨?_, ?_⟩
    · show fltL H' xs = fltL H xs
      unfold fltL
      rw [good_same s hx]
    · show xs.map (rowOf H') = xs.map (rowOf H)
      exact List.map_congr_left fun y hy => ((hx y hy).flt (ss := []) s).2
def sp_Pinit (K : PySem.W.Frag) (D : Ad) : Sp := fun vs H Q E => ∃ o d x, vs = [.ref o, x] ∧ H o = some (.ins D.Pieces d []) ∧ SeqIn K H x ∧ (∀ at_ why, fltOf H x = some (at_, why) → RaiseX D.BadPieces [("at", at_), ("why", .str why)] H E) ∧
  (fltOf H x = none → ∀ t L H', SameB o H H' → H' o = some (.ins D.Pieces d [("held", .ref t)]) → H' t = some (.tup (refs L)) → TL H' L → L.map (·.2) = rowsOf H x → Q .non H')
def sp_told (D : Ad) : Sp := fun vs H Q _ => ∃ o t L, vs = [.ref o] ∧ PO H D o t L ∧ Q (.ref t) H
def sp_pnames (D : Ad) : Sp := fun vs H Q _ => ∃ o t L, vs = [.ref o] ∧ PO H D o t L ∧ L.length ≤ 100 ∧ ∀ p H', Same H H' → H p = none → H' p = some (.lst ((L.map (·.2.n)).map V.str)) → Q (.ref p) H'
def sp_has (K : PySem.W.Frag) (D : Ad) : Sp := fun vs H Q _ => ∃ o t L x, vs = [.ref o, x] ∧ PO H D o t L ∧ L.length ≤ 100 ∧ EqT K H x ∧ ∀ H', Same H H' → Q (.bl ((L.map (·.2.n)).any fun z => eqS z x)) H'
/-- the first piece of this name -/
def Fst (L : Rws) (x : V) (i : Nat) (p : Addr × Row) : Prop := L[i]? = some p ∧ eqS p.2.n x = true ∧ ∀ j q, j < i → L[j]? = some q → eqS q.2.n x = false
def sp_place (K : PySem.W.Frag) (D : Ad) : Sp := fun vs H Q E => ∃ o t L x, vs = [.ref o, x] ∧ PO H D o t L ∧ EqT K H x ∧ (∀ i p H', Fst L x i p → Same H H' → Q (.int (i : Nat)) H') ∧ ((∀ p ∈ L, eqS p.2.n x = false) → RaiseX D.NoPiece [("found", x)] H E)
def sp_row (K : PySem.W.Frag) (D : Ad) : Sp := fun vs H Q E => ∃ o t L x, vs = [.ref o, x] ∧ PO H D o t L ∧ EqT K H x ∧ (∀ i p H', Fst L x i p → Same H H' → Q (.ref p.1) H') ∧ ((∀ p ∈ L, eqS p.2.n x = false) → RaiseX D.NoPiece [("found", x)] H E)
/-- Pieces(x) -/
theorem mk_Pieces {K : PySem.W.Frag} {D : Ad} {x : V} {H : Hp} {Q : Addr → Hp → Prop} {E : XK} (hx : SeqIn K H x) (hE : ∀ at_ why, fltOf H x = some (at_, why) → RaiseX D.BadPieces [("at", at_), ("why", .str why)] H E)
    (hQ : fltOf H x = none → ∀ o t L H', Same H H' → H o = none → PO H' D o t L → L.map (·.2) = rowsOf H x → Q o H') :
    ∀ o dx, H o = none → H dx = none → dx ≠ o → sp_Pinit K D [.ref o, x] (upd (upd H dx (.own o)) o (.ins D.Pieces dx [])) (fun v H2 => v = .non ∧ Q o H2) E := by
  intro o dx no nd ne
  have s : Same H (upd (upd H dx (.own o)) o (.ins D.Pieces dx [])) := fun b u e => by
    rw [upd_ne (ne_of_none e no), upd_ne (ne_of_none e nd)]
    exact e
  have f := hx.flt s
  refine ⟨o, dx, x, rfl, upd_same, hx.same s, fun at_ why e => (hE at_ why (f.1 ▸ e)).mono s, fun e t L H' sb h1 h2 tl er => ⟨rfl, ?_⟩⟩
  exact hQ (f.1 ▸ e) o t L H' (fun b u hb => sb _ _ (s _ _ hb) (ne_of_none hb no)) no ⟨⟨dx, h1⟩, h2, tl⟩ (by rw [er, f.2])
section
variable {P : Program} {w : World} {K : PySem.W.Frag} {mg : Str → Option Value} {base : Heap} {D : Ad}
abbrev s_Pieces___init__ : Stmt := inClass (top 20) 0
theorem sc_Pieces___init__ : FnScope ["self", "rows"] ["self", "rows"] (defScope s_Pieces___init__) := ⟨rfl, rfl, rfl, by decide +kernel, rfl, by decide +kernel, by decide +kernel⟩
theorem ok_Pieces___init__ {f : Addr} {fd : FuncData} (F : Fun K "__init__" "Pieces.__init__" s_Pieces___init__ f fd) (T : Txt K mg D) (c_good_rows : CalR P w K mg base 5 "good_rows" ["rows"] (sp_good K D)) : FnOk P w K mg base (CXF P w) 6 f fd ["self", "rows"] (sp_Pinit K D) := by
  refine F.okX sc_Pieces___init__ (fun vs H Q E h => ?_) (fun cdv A outer s H vs Q E hr h => ?_)
  · obtain ⟨o, d, x, rfl, ho, hx, hE, hQ⟩ := h
    rfl
  · obtain ⟨o, d, x, rfl, ho, hx, hE, hQ⟩ := h
    refine ⟨_, (@pss_one _ _ _ (@ps_fld _ _ _ _ _ _ _ _ (@pv _ 0 _ _ (by rfl) (by first | exact Or.inl rfl | exact Or.inr (Or.inl rfl) | exact Or.inr (Or.inr rfl)) (by decide) (by decide)) (@pe_funE _ _ _ _ _ (fun _ E' => E' = E) _ _ _ _ _ _ c_good_rows hr (fun σ E' e => by cases e; exact lets_body σ) (@pa_c _ _ _ _ _ (@pv _ 1 _ _ (by rfl) (by first | exact Or.inl rfl | exact Or.inr (Or.inl rfl) | exact Or.inr (Or.inr rfl)) (by decide) (by decide)) (@pa_nil _) (by rfl)) (by rfl) (by decide) (by decide) (by rfl) (by rfl)) rfl)), ?_⟩
    refine ⟨_, rfl, _, rfl, x, rfl, hx, hE, fun e0 t L H1 s1 nt h1 tl er => ?_⟩
    refine ⟨_, rfl, o, D.Pieces, d, [], rfl, s1 _ _ ho, T.cl_Pieces, T.n_Pieces_held, (by decide), ?_⟩
    have nto : t ≠ o := (ne_of_none ho nt).symm
    refine hQ e0 t L _ (fun b u e nb => by rw [upd_ne nb]; exact s1 _ _ e) upd_same (by rw [upd_ne nto]; exact h1) (fun p hp => ?_) er
    have := tl p hp
    rw [upd_ne (ne_of this (s1 _ _ ho) (by intro z; cases z))]
    exact this
end

end K05

set_option Elab.async false
set_option linter.all false
set_option maxRecDepth 100000
set_option maxHeartbeats 4000000
namespace K05
open PySem L2
open _root_.TL
def WORDS : List Str := ["a", "ask", "b", "work", "a1", "rest", "ab", "failed", "abc", "done", "ba", "off", "aa", "left"]
def wd (n : Nat) : Str := WORDS.getD n ""
theorem words_nodup : ∀ z, z < 14 → ((List.range 14).map fun k => wd ((z + 3 * k) % 14)).Nodup := by decide +kernel
theorem words_ok : ∀ n, n < 14 → isNm (wd n) = true := by decide +kernel
theorem nodup_take {α β : Type} {f : α → β} {n : Nat} {l l' : List α} (h : ((l).map f).Nodup) (e : l.take n = l') : (l'.map f).Nodup := by
  rw [← e]
  exact h.sublist ((List.take_sublist n l).map f)
theorem LET_tl : LET.cps.toList = List.range' 97 26 := by decide +kernel
theorem LF_tl : (LET ++ FIG).cps.toList = List.range' 97 26 ++ List.range' 48 10 := by decide +kernel
/-- a drawn name, by its signs -/
def nmL (bs : List Nat) (pl fs k : Nat) : List Nat := bs.take pl ++ ([97 + (fs + 7 * k) % 26] ++ (if k / 26 = 0 then [] else [48])) ++ bs.drop pl ++ [122, 57].take (k % 3)
def nmS (bs : List Nat) (pl fs k : Nat) : Str := ⟨(nmL bs pl fs k).toArray⟩
theorem nm_ne {bs : List Nat} {pl fs j k : Nat} (hb : ∀ c ∈ bs, 97 ≤ c ∧ c ≤ 122) (hjk : j < k) (hk : k < 30) : nmL bs pl fs j ≠ nmL bs pl fs k := by
  intro h
  unfold nmL at h
  simp only [List.append_assoc] at h
  have h1 := List.append_cancel_left h
  rw [List.singleton_append, List.singleton_append] at h1
  injection h1 with h2 h3
  have e26 : k = j + 26 := by omega
  subst e26
  have hj0 : j / 26 = 0 := by omega
  have hk0 : ¬ (j + 26) / 26 = 0 := by omega
  rw [if_pos hj0, if_neg hk0, List.nil_append, List.singleton_append] at h3
  cases e : bs.drop pl with
  | cons c r =>
    rw [e] at h3
    have hc : c ∈ bs := List.mem_of_mem_drop (by rw [e]; simp)
    have := hb c hc
    injection h3 with h4 _
    omega
  | nil =>
    rw [e, List.nil_append] at h3
    have hj3 : j % 3 = 0 ∨ j % 3 = 1 ∨ j % 3 = 2 := by omega
    rcases hj3 with q | q | q <;> (rw [q] at h3; simp at h3)
theorem nm_nodup {bs : List Nat} {pl fs : Nat} (hb : ∀ c ∈ bs, 97 ≤ c ∧ c ≤ 122) {n : Nat} (hn : n ≤ 30) : ((List.range n).map (nmS bs pl fs)).Nodup := by
  unfold List.Nodup
  rw [List.pairwise_map]
  refine List.Pairwise.imp_of_mem (R := (· < ·)) ?_ List.pairwise_lt_range
  intro a b _ hbm hab q
  have hb' := List.mem_range.mp hbm
  refine nm_ne (pl := pl) (fs := fs) hb hab (by omega) ?_
  have := congrArg (fun z : Str => z.cps.toList) q
  simpa [nmS] using this
theorem mem_nmL {bs : List Nat} {pl fs k : Nat} (hb : ∀ c ∈ bs, 97 ≤ c ∧ c ≤ 122) {c : Nat} (h : c ∈ nmL bs pl fs k) : (97 ≤ c ∧ c ≤ 122) ∨ (48 ≤ c ∧ c ≤ 57) := by
  unfold nmL at h
  simp only [List.mem_append] at h
  rcases h with ((h | h | h) | h) | h
  · exact .inl (hb c (List.mem_of_mem_take h))
  · simp at h
    omega
  · split at h
    · cases h
    · simp at h
      omega
  · exact .inl (hb c (List.mem_of_mem_drop h))
  · have := List.mem_of_mem_take h
    simp at this
    omega
theorem nm_ok {bs : List Nat} {pl fs k : Nat} (hb : ∀ c ∈ bs, 97 ≤ c ∧ c ≤ 122) (hl : bs.length ≤ 4) : isNm (nmS bs pl fs k) = true := by
  have hlen : (nmL bs pl fs k).length ≤ 8 ∧ 1 ≤ (nmL bs pl fs k).length := by
    unfold nmL
    simp only [List.length_append, List.length_take, List.length_drop, List.length_cons, List.length_nil]
    split <;> simp <;> omega
  have e : (nmS bs pl fs k).cps.toList = nmL bs pl fs k := rfl
  have el : (nmS bs pl fs k).length = (nmL bs pl fs k).length := by rw [← len_list]; rfl
  have hw : within (.int (nmS bs pl fs k).length) 1 8 = true := by
    rw [el]
    simp [within]
    omega
  have ha : among (nmS bs pl fs k) (LET ++ FIG) = true := by
    unfold among
    rw [e, LF_tl]
    refine List.all_eq_true.mpr fun c hc => decide_eq_true ?_
    rcases mem_nmL hb hc with h | h
    · exact List.mem_append_left _ (List.mem_range'_1.mpr (by omega))
    · exact List.mem_append_right _ (List.mem_range'_1.mpr (by omega))
  have hh : ∃ c r, nmL bs pl fs k = c :: r ∧ 97 ≤ c ∧ c ≤ 122 := by
    cases q : bs.take pl with
    | nil =>
      refine ⟨97 + (fs + 7 * k) % 26, _, by unfold nmL; rw [q]; rfl, by omega, by omega⟩
    | cons c r =>
      have hc := hb c (List.mem_of_mem_take (by rw [q]; simp))
      exact ⟨c, _, by unfold nmL; rw [q]; rfl, hc⟩
  obtain ⟨c, r, hcr, h1, h2⟩ := hh
  unfold isNm
  rw [hw, ha, e, hcr, LET_tl]
  show (true && (decide (c ∈ List.range' 97 26) && true)) = true
  rw [decide_eq_true (List.mem_range'_1.mpr (by omega))]
  rfl
def sp_lnames : Sp := fun vs H Q _ => ∃ p m, vs = [.ref p, .int m] ∧ Bx H p ∧ 0 ≤ m ∧ m ≤ 30 ∧ ∀ (q : Addr) (ss : List Str) (H' : Hp), SameB p H H' → Bx H' p → H q = none → H' q = some (.lst (ss.map V.str)) → (ss.length : Int) = m → ss.Nodup → (∀ z ∈ ss, isNm z = true) → Q (.ref q) H'
def zS (k : Nat) : Str := if k / 26 = 0 then "" else "0"
theorem nm_str {base : Str} {pl fs k : Nat} (hp : pl ≤ base.length) :
    cutS base none (some (pl : Int)) ++ (⟨#[97 + (fs + 7 * k) % 26]⟩ ++ zS k) ++ cutS base (some (pl : Int)) none ++ cutS "z9" none (some ((k % 3 : Nat) : Int)) = nmS base.cps.toList pl fs k := by
  have inj : ∀ {a b : Str}, tl a = tl b → a = b := fun {a b} h => by
    cases a with | mk a => cases b with | mk b => exact congrArg Str.mk (Array.toList_inj.mp h)
  apply inj
  rw [tl_append, tl_append, tl_append, tl_append]
  have e1 : tl (cutS base none (some (pl : Int))) = base.cps.toList.take pl := by
    show (base.cps.toList.drop (HT.sIx base.length 0 none)).take (HT.sIx base.length base.length (some (pl : Int)) - HT.sIx base.length 0 none) = _
    rw [HT.sIx_none, HT.sIx_nat, List.drop_zero, Nat.sub_zero, Nat.min_eq_left hp]
  have e2 : tl (cutS base (some (pl : Int)) none) = base.cps.toList.drop pl := by
    show (base.cps.toList.drop (HT.sIx base.length 0 (some (pl : Int)))).take (HT.sIx base.length base.length none - HT.sIx base.length 0 (some (pl : Int))) = _
    rw [HT.sIx_none, HT.sIx_nat, Nat.min_eq_left hp, List.take_of_length_le]
    rw [List.length_drop, len_list]
    exact Nat.le_refl _
  have e3 : tl (cutS "z9" none (some ((k % 3 : Nat) : Int))) = [122, 57].take (k % 3) := by
    have hk : k % 3 = 0 ∨ k % 3 = 1 ∨ k % 3 = 2 := by omega
    rcases hk with q | q | q <;> (rw [q]; decide +kernel)
  have e4 : tl (zS k) = if k / 26 = 0 then [] else [48] := by
    unfold zS
    split <;> decide +kernel
  rw [e1, e2, e3, e4]
  rfl
theorem cutS_len (z : Str) (lo hi : Option Int) : (cutS z lo hi).length ≤ z.length := by
  rw [← len_list, ← len_list]
  show ((z.cps.toList.drop _).take _).length ≤ _
  rw [List.length_take, List.length_drop]
  omega
theorem app_len (a b : Str) : (a ++ b).length = a.length + b.length := by
  rw [← len_list, ← len_list, ← len_list, ← List.length_append, ← tl_append]
theorem zero_at {i : Nat} (h : i < 30) : atI [V.str "", .str "0"] ((0 + (i : Int)) / 26) = some (.str (zS i)) := by
  unfold zS
  by_cases q : i / 26 = 0
  · rw [if_pos q, show (0 + (i : Int)) / 26 = ((0 : Nat) : Int) by omega]
    rfl
  · rw [if_neg q, show (0 + (i : Int)) / 26 = ((1 : Nat) : Int) by omega]
    rfl
theorem zero_len (i : Nat) : (zS i).length ≤ 1 := by
  unfold zS
  split <;> decide +kernel
def LETR : Str := "abcdefghijklmnopqrstuvwxyz"
theorem letr_tl : LETR.cps.toList = List.range' 97 26 := by decide +kernel
theorem letr_at {z : Int} (z0 : 0 ≤ z) (z1 : z < 26) : atI LETR.cps.toList z = some (97 + z.toNat) := by
  have hj : z.toNat < LETR.cps.toList.length := by rw [letr_tl]; simp; omega
  rw [at_int z0 hj]
  simp [letr_tl]
section
variable {P : Program} {w : World} {K : PySem.W.Frag} {mg : Str → Option Value} {base : Heap} {D : Ad}
abbrev s__law_names : Stmt := top 25
theorem sc__law_names : FnScope ["_law_box_here", "_law_many", "_law_letters", "_law_words", "_law_at", "_law_k", "_law_base", "_law_first", "_law_names_here", "_law_sign"] ["_law_box_here", "_law_many"] (defScope s__law_names) := ⟨rfl, rfl, rfl, by decide +kernel, rfl, by decide +kernel, by decide +kernel⟩
theorem ok__law_names {f : Addr} {fd : FuncData} (F : Fun K "_law_names" "_law_names" s__law_names f fd) (T : Txt K mg D) (c__law_take : CalF P w K mg base 1 "_law_take" ["_law_box_here", "_law_many"] (sp_take)) : FnOk P w K mg base CX0 2 f fd ["_law_box_here", "_law_many"] (sp_lnames) := by
  refine F.ok sc__law_names (fun vs H Q E h => ?_) (fun cdv A outer s H vs Q E hr h => ?_)
  · obtain ⟨p, m, rfl, hb, m0, m1, k⟩ := h
    rfl
  · obtain ⟨p, m, rfl, hb, m0, m1, k⟩ := h
    refine ⟨_, (@pss_cons _ _ _ _ _ (@ps_set _ _ 2 _ _ _ _ sc__law_names.nd rfl (by first | exact Or.inl rfl | exact Or.inr rfl) (@pe_str _ _ _ _) (by rfl) (by first | exact .inl rfl | exact .inr rfl | assumption)) 
      (@pss_cons _ _ _ _ _ (@ps_set _ _ 3 _ _ _ _ sc__law_names.nd rfl (by first | exact Or.inl rfl | exact Or.inr rfl) (@pe_lst _ _ _ _ (@pa_c _ _ _ _ _ (@pe_str _ _ _ _) (@pa_c _ _ _ _ _ (@pe_str _ _ _ _) (@pa_c _ _ _ _ _ (@pe_str _ _ _ _) (@pa_c _ _ _ _ _ (@pe_str _ _ _ _) (@pa_c _ _ _ _ _ (@pe_str _ _ _ _) (@pa_c _ _ _ _ _ (@pe_str _ _ _ _) (@pa_c _ _ _ _ _ (@pe_str _ _ _ _) (@pa_c _ _ _ _ _ (@pe_str _ _ _ _) (@pa_c _ _ _ _ _ (@pe_str _ _ _ _) (@pa_c _ _ _ _ _ (@pe_str _ _ _ _) (@pa_c _ _ _ _ _ (@pe_str _ _ _ _) (@pa_c _ _ _ _ _ (@pe_str _ _ _ _) (@pa_c _ _ _ _ _ (@pe_str _ _ _ _) (@pa_c _ _ _ _ _ (@pe_str _ _ _ _) (@pa_nil _) (by rfl)) (by rfl)) (by rfl)) (by rfl)) (by rfl)) (by rfl)) (by rfl)) (by rfl)) (by rfl)) (by rfl)) (by rfl)) (by rfl)) (by rfl)) (by rfl))) (by rfl) (by first | exact .inl rfl | exact .inr rfl | assumption)) 
      (@pss_cons _ _ _ _ _ (@ps_if _ _ _ _ _ _ _ _ (@PW.pt _ _ _ (@pw_and _ _ _ _ _ _ _ (@pt_cmpR _ _ _ _ _ _ _ _ op_lt (@pv _ 1 _ _ (by rfl) (by first | exact Or.inl rfl | exact Or.inr (Or.inl rfl) | exact Or.inr (Or.inr rfl)) (by decide) (by decide)) (@pe_int _ _ _ _) (nomark _)) (@pw_and1 _ _ _ _ (@pt_cmpR _ _ _ _ _ _ _ _ op_eq (@pe_fun _ _ _ _ _ _ _ _ _ _ _ c__law_take hr (@pa_c _ _ _ _ _ (@pv _ 0 _ _ (by rfl) (by first | exact Or.inl rfl | exact Or.inr (Or.inl rfl) | exact Or.inr (Or.inr rfl)) (by decide) (by decide)) (@pa_c _ _ _ _ _ (@pe_int _ _ _ _) (@pa_nil _) (by rfl)) (by rfl)) (by rfl) (by decide) (by decide) (by rfl) (by rfl)) (@pe_int _ _ _ _) (nomark _))))) (@pss_cons _ _ _ _ _ (@ps_set _ _ 4 _ _ _ _ sc__law_names.nd rfl (by first | exact Or.inl rfl | exact Or.inr rfl) (@pe_fun _ _ _ _ _ _ _ _ _ _ _ c__law_take hr (@pa_c _ _ _ _ _ (@pv _ 0 _ _ (by rfl) (by first | exact Or.inl rfl | exact Or.inr (Or.inl rfl) | exact Or.inr (Or.inr rfl)) (by decide) (by decide)) (@pa_c _ _ _ _ _ (@pe_int _ _ _ _) (@pa_nil _) (by rfl)) (by rfl)) (by rfl) (by decide) (by decide) (by rfl) (by rfl)) (by rfl) (by first | exact .inl rfl | exact .inr rfl | assumption)) 
      (@pss_one _ _ _ (@ps_ret _ _ _ _ (@pe_lc _ _ _ _ _ _ [("_law_k", 5)] _ _ (gName 5) _ _ (by rfl) sc__law_names.nd (@pi_range1 _ _ _ _ _ _ (by rfl) T.b_range (@pa_c _ _ _ _ _ (@pv _ 1 _ _ (by rfl) (by first | exact Or.inl rfl | exact Or.inr (Or.inl rfl) | exact Or.inr (Or.inr rfl)) (by decide) (by decide)) (@pa_nil _) (by rfl)) (by rfl)) (blkOk_by (own := [("_law_k", 5)]) (N := ["_law_box_here", "_law_many", "_law_letters", "_law_words", "_law_at", "_law_k", "_law_base", "_law_first", "_law_names_here", "_law_sign"]) (sc := defScope s__law_names) (by decide +kernel)) (fun _ _ _ _ _ => (@pg_name _ _ 5 _ sc__law_names.nd rfl (by first | exact Or.inl rfl | exact Or.inr rfl) (by first | exact .inl rfl | exact .inr rfl | assumption))) (fun _ _ _ _ _ => (@pts_nil _)) (fun _ _ _ _ _ => (@pe_ix _ _ _ _ _ _ _ (ix_listK (K := K) rfl) (@pv _ 3 _ _ (by rfl) (by first | exact Or.inl rfl | exact Or.inr (Or.inl rfl) | exact Or.inr (Or.inr rfl)) (by decide) (by decide)) (@pe_op _ _ _ _ _ _ _ _ op_mod (@pe_op _ _ _ _ _ _ _ _ op_add (@pv _ 4 _ _ (by rfl) (by first | exact Or.inl rfl | exact Or.inr (Or.inl rfl) | exact Or.inr (Or.inr rfl)) (by decide) (by decide)) (@pe_op _ _ _ _ _ _ _ _ op_mul (@pe_int _ _ _ _) (@pv _ 5 _ _ (by rfl) (by first | exact Or.inl rfl | exact Or.inr (Or.inl rfl) | exact Or.inr (Or.inr rfl)) (by decide) (by decide)))) (@pe_int _ _ _ _)) (fun _ _ => rfl))) (by intro _; rfl))))) (@pss_nil _)) 
      (@pss_cons _ _ _ _ _ (@ps_set _ _ 6 _ _ _ _ sc__law_names.nd rfl (by first | exact Or.inl rfl | exact Or.inr rfl) (@pe_join _ _ _ _ _ _ _ (@pe_str _ _ _ _) (@pe_lc _ _ _ _ _ _ [("_law_k", 5)] _ _ (gName 5) _ _ (by rfl) sc__law_names.nd (@pi_range1 _ _ _ _ _ _ (by rfl) T.b_range (@pa_c _ _ _ _ _ (@pe_fun _ _ _ _ _ _ _ _ _ _ _ c__law_take hr (@pa_c _ _ _ _ _ (@pv _ 0 _ _ (by rfl) (by first | exact Or.inl rfl | exact Or.inr (Or.inl rfl) | exact Or.inr (Or.inr rfl)) (by decide) (by decide)) (@pa_c _ _ _ _ _ (@pe_int _ _ _ _) (@pa_nil _) (by rfl)) (by rfl)) (by rfl) (by decide) (by decide) (by rfl) (by rfl)) (@pa_nil _) (by rfl)) (by rfl)) (blkOk_by (own := [("_law_k", 5)]) (N := ["_law_box_here", "_law_many", "_law_letters", "_law_words", "_law_at", "_law_k", "_law_base", "_law_first", "_law_names_here", "_law_sign"]) (sc := defScope s__law_names) (by decide +kernel)) (fun _ _ _ _ _ => (@pg_name _ _ 5 _ sc__law_names.nd rfl (by first | exact Or.inl rfl | exact Or.inr rfl) (by first | exact .inl rfl | exact .inr rfl | assumption))) (fun _ _ _ _ _ => (@pts_nil _)) (fun _ _ _ _ _ => (@pe_ix _ _ _ _ _ _ _ ix_str (@pv _ 2 _ _ (by rfl) (by first | exact Or.inl rfl | exact Or.inr (Or.inl rfl) | exact Or.inr (Or.inr rfl)) (by decide) (by decide)) (@pe_fun _ _ _ _ _ _ _ _ _ _ _ c__law_take hr (@pa_c _ _ _ _ _ (@pv _ 0 _ _ (by rfl) (by first | exact Or.inl rfl | exact Or.inr (Or.inl rfl) | exact Or.inr (Or.inr rfl)) (by decide) (by decide)) (@pa_c _ _ _ _ _ (@pe_int _ _ _ _) (@pa_nil _) (by rfl)) (by rfl)) (by rfl) (by decide) (by decide) (by rfl) (by rfl)) (fun _ _ => rfl))) (by intro _; rfl)) (by rfl) (by rfl) (by rfl)) (by rfl) (by first | exact .inl rfl | exact .inr rfl | assumption)) 
      (@pss_cons _ _ _ _ _ (@ps_set _ _ 4 _ _ _ _ sc__law_names.nd rfl (by first | exact Or.inl rfl | exact Or.inr rfl) (@pe_fun _ _ _ _ _ _ _ _ _ _ _ c__law_take hr (@pa_c _ _ _ _ _ (@pv _ 0 _ _ (by rfl) (by first | exact Or.inl rfl | exact Or.inr (Or.inl rfl) | exact Or.inr (Or.inr rfl)) (by decide) (by decide)) (@pa_c _ _ _ _ _ (@pe_op _ _ _ _ _ _ _ _ op_add (@pe_callB _ _ _ _ _ _ _ _ _ (call_lenK (K := K) rfl) (by rfl) T.b_len (by decide +kernel) (@pa_c _ _ _ _ _ (@pv _ 6 _ _ (by rfl) (by first | exact Or.inl rfl | exact Or.inr (Or.inl rfl) | exact Or.inr (Or.inr rfl)) (by decide) (by decide)) (@pa_nil _) (by rfl)) (by decide) (by decide) (by rfl) (by rfl)) (@pe_int _ _ _ _)) (@pa_nil _) (by rfl)) (by rfl)) (by rfl) (by decide) (by decide) (by rfl) (by rfl)) (by rfl) (by first | exact .inl rfl | exact .inr rfl | assumption)) 
      (@pss_cons _ _ _ _ _ (@ps_set _ _ 7 _ _ _ _ sc__law_names.nd rfl (by first | exact Or.inl rfl | exact Or.inr rfl) (@pe_fun _ _ _ _ _ _ _ _ _ _ _ c__law_take hr (@pa_c _ _ _ _ _ (@pv _ 0 _ _ (by rfl) (by first | exact Or.inl rfl | exact Or.inr (Or.inl rfl) | exact Or.inr (Or.inr rfl)) (by decide) (by decide)) (@pa_c _ _ _ _ _ (@pe_int _ _ _ _) (@pa_nil _) (by rfl)) (by rfl)) (by rfl) (by decide) (by decide) (by rfl) (by rfl)) (by rfl) (by first | exact .inl rfl | exact .inr rfl | assumption)) 
      (@pss_cons _ _ _ _ _ (@ps_set _ _ 8 _ _ _ _ sc__law_names.nd rfl (by first | exact Or.inl rfl | exact Or.inr rfl) (@pe_lst _ _ _ _ (@pa_nil _)) (by rfl) (by first | exact .inl rfl | exact .inr rfl | assumption)) 
      (@pss_cons _ _ _ _ _ (@ps_for _ _ _ _ _ _ _ _ PassesOwn.never rfl (@pi_range1 _ _ _ _ _ _ (by rfl) T.b_range (@pa_c _ _ _ _ _ (@pv _ 1 _ _ (by rfl) (by first | exact Or.inl rfl | exact Or.inr (Or.inl rfl) | exact Or.inr (Or.inr rfl)) (by decide) (by decide)) (@pa_nil _) (by rfl)) (by rfl)) (@pg_name _ _ 5 _ sc__law_names.nd rfl (by first | exact Or.inl rfl | exact Or.inr rfl) (by first | exact .inl rfl | exact .inr rfl | assumption)) (@pss_cons _ _ _ _ _ (@ps_set _ _ 9 _ _ _ _ sc__law_names.nd rfl (by first | exact Or.inl rfl | exact Or.inr rfl) (@pe_op _ _ _ _ _ _ _ _ op_add_str (@pe_ix _ _ _ _ _ _ _ ix_str (@pv _ 2 _ _ (by rfl) (by first | exact Or.inl rfl | exact Or.inr (Or.inl rfl) | exact Or.inr (Or.inr rfl)) (by decide) (by decide)) (@pe_op _ _ _ _ _ _ _ _ op_mod (@pe_op _ _ _ _ _ _ _ _ op_add (@pv _ 7 _ _ (by rfl) (by first | exact Or.inl rfl | exact Or.inr (Or.inl rfl) | exact Or.inr (Or.inr rfl)) (by decide) (by decide)) (@pe_op _ _ _ _ _ _ _ _ op_mul (@pe_int _ _ _ _) (@pv _ 5 _ _ (by rfl) (by first | exact Or.inl rfl | exact Or.inr (Or.inl rfl) | exact Or.inr (Or.inr rfl)) (by decide) (by decide)))) (@pe_int _ _ _ _)) (fun _ _ => rfl)) (@pe_ix _ _ _ _ _ _ _ (ix_listK (K := K) rfl) (@pe_lst _ _ _ _ (@pa_c _ _ _ _ _ (@pe_str _ _ _ _) (@pa_c _ _ _ _ _ (@pe_str _ _ _ _) (@pa_nil _) (by rfl)) (by rfl))) (@pe_op _ _ _ _ _ _ _ _ op_fdiv (@pv _ 5 _ _ (by rfl) (by first | exact Or.inl rfl | exact Or.inr (Or.inl rfl) | exact Or.inr (Or.inr rfl)) (by decide) (by decide)) (@pe_int _ _ _ _)) (fun _ _ => rfl))) (by rfl) (by first | exact .inl rfl | exact .inr rfl | assumption)) 
      (@pss_one _ _ _ (@ps_expr _ _ _ _ (@pe_bm _ _ _ _ _ _ _ _ _ _ _ _ PySem.F.plainAttrs_list PySem.F.slot_list_append PySem.F.type_list_append mt_append (@pv _ 8 _ _ (by rfl) (by first | exact Or.inl rfl | exact Or.inr (Or.inl rfl) | exact Or.inr (Or.inr rfl)) (by decide) (by decide)) (@pa_c _ _ _ _ _ (@pe_op _ _ _ _ _ _ _ _ op_add_str (@pe_op _ _ _ _ _ _ _ _ op_add_str (@pe_op _ _ _ _ _ _ _ _ op_add_str (@pe_slice _ _ _ _ _ _ _ _ _ _ sl_str (@pv _ 6 _ _ (by rfl) (by first | exact Or.inl rfl | exact Or.inr (Or.inl rfl) | exact Or.inr (Or.inr rfl)) (by decide) (by decide)) (@po_none _) (@po_some _ _ _ (@pv _ 4 _ _ (by rfl) (by first | exact Or.inl rfl | exact Or.inr (Or.inl rfl) | exact Or.inr (Or.inr rfl)) (by decide) (by decide)))) (@pv _ 9 _ _ (by rfl) (by first | exact Or.inl rfl | exact Or.inr (Or.inl rfl) | exact Or.inr (Or.inr rfl)) (by decide) (by decide))) (@pe_slice _ _ _ _ _ _ _ _ _ _ sl_str (@pv _ 6 _ _ (by rfl) (by first | exact Or.inl rfl | exact Or.inr (Or.inl rfl) | exact Or.inr (Or.inr rfl)) (by decide) (by decide)) (@po_some _ _ _ (@pv _ 4 _ _ (by rfl) (by first | exact Or.inl rfl | exact Or.inr (Or.inl rfl) | exact Or.inr (Or.inr rfl)) (by decide) (by decide))) (@po_none _))) (@pe_slice _ _ _ _ _ _ _ _ _ _ sl_str (@pe_str _ _ _ _) (@po_none _) (@po_some _ _ _ (@pe_op _ _ _ _ _ _ _ _ op_mod (@pv _ 5 _ _ (by rfl) (by first | exact Or.inl rfl | exact Or.inr (Or.inl rfl) | exact Or.inr (Or.inr rfl)) (by decide) (by decide)) (@pe_int _ _ _ _))))) (@pa_nil _) (by rfl)) (by rfl) (by rfl) (by rfl) (by rfl) (by rfl)) (by rfl)))) (by intro _; rfl)) 
      (@pss_one _ _ _ (@ps_ret _ _ _ _ (@pv _ 8 _ _ (by rfl) (by first | exact Or.inl rfl | exact Or.inr (Or.inl rfl) | exact Or.inr (Or.inr rfl)) (by decide) (by decide)))))))))))), ?_⟩
    refine ⟨(by show 14 ≤ sizeLine; decide), fun wp nw => ?_⟩
    generalize e1 : upd H wp _ = H1
    have s1 := upd_sm e1 nw
    have b1 := hb.same s1
    have hwp : H1 wp = some (.lst (WORDS.map V.str)) := upd_at e1
    have wne : wp ≠ p := hb.ne nw
    refine ⟨_, rfl, _, _, rfl, rfl, _, rfl, ?_⟩
    refine ite2 (fun c1 => ?_) (fun c1 => ?_)
    · have c1 := of_decide_eq_true c1
      refine ⟨_, rfl, p, 4, rfl, b1, (by decide), (by decide), fun z H2 z0 z1 sb2 b2 => ⟨rfl, _, rfl, ?_⟩⟩
      refine ite2 (fun c2 => ?_) (fun c2 => ?_)
      · refine ⟨_, rfl, p, 14, rfl, b2, (by decide), (by decide), fun pl H3 pl0 pl1 sb3 b3 => ?_⟩
        have w3 := sb3 _ _ (sb2 _ _ hwp wne) wne
        refine ⟨_, rfl, m, rfl, by omega, by omega, fun q nq => lc_range (lo := 0) (n := m.toNat) (fun i H4 => Same H3 H4 ∧ i ≤ m.toNat ∧ H4 q = some (.lst (((List.range i).map fun k => wd ((pl.toNat + 3 * k) % 14)).map V.str)))
          ⟨same_new nq, Nat.zero_le _, upd_same⟩ ?_ ?_⟩
        · rintro i H4 hi ⟨s4, _, h4⟩
          refine ⟨rfl, yesI ?_⟩
          refine ⟨_, rfl, _, rfl, _, rfl, _, _, rfl, rfl, .inl ⟨by decide, by decide⟩, _, _, rfl, rfl, _, _, rfl, rfl, (by show (0 : Int) < 14; decide), wp, _, _, .str (wd ((pl.toNat + 3 * i) % 14)), rfl, rfl, SqL.of (s4 _ _ w3), ?_, _, h4, ?_, fun b o e => ?_, hi, ?_⟩
          · have e : (pl + 3 * (0 + (i : Int))) % 14 = (((pl.toNat + 3 * i) % 14 : Nat) : Int) := by omega
            rw [e]
            refine atI_nat ?_
            have hlt : (pl.toNat + 3 * i) % 14 < WORDS.length := by show _ < 14; omega
            rw [List.getElem?_map, List.getElem?_eq_getElem hlt]
            unfold wd
            rw [List.getD_eq_getElem?_getD, List.getElem?_eq_getElem hlt]
            rfl
          · simp only [List.length_map, List.length_range]
            exact small1000 (by omega)
          · rw [upd_ne (ne_of_none e nq)]
            exact s4 _ _ e
          · rw [upd_same, List.range_succ]
            simp
        · rintro H4 ⟨s4, _, h4⟩
          refine k q _ H4 (((s1.b.trans sb2).trans sb3).trans s4.b) (b3.same s4) ?_ h4 ?_ ?_ ?_
          · exact (((s1.b (p := p)).trans sb2).trans sb3).free nq (b3.ne nq)
          · simp; omega
          · refine nodup_take (n := m.toNat) (words_nodup pl.toNat (by omega)) ?_
            rw [List.take_range, Nat.min_eq_left (by omega)]
          · intro z hz
            obtain ⟨k, _, rfl⟩ := List.mem_map.mp hz
            exact words_ok _ (Nat.mod_lt _ (by decide))
      ·
        refine ⟨⟨_, rfl⟩, _, rfl, p, 5, rfl, b2, (by decide), (by decide), fun n H3 n0 n1 sb3 b3 => ⟨n, rfl, by omega, by omega, fun lp nl => ?_⟩⟩
        have hlp : lp ≠ p := b3.ne nl
        refine lc_range (lo := 0) (n := n.toNat) (fun i H4 => SameB p H3 H4 ∧ Bx H4 p ∧ ∃ ys : List Str, ys.length = i ∧ (∀ y ∈ ys, y.length = 1 ∧ ∀ c ∈ y.cps.toList, 97 ≤ c ∧ c ≤ 122) ∧ H4 lp = some (.lst (ys.map V.str)))
          ⟨(same_new nl).b, b3.same (same_new nl), [], rfl, fun y hy => (nomatch hy), upd_same⟩ ?_ ?_
        · rintro i H4 hi ⟨sb4, b4, ys, hy, hy1, hyD⟩
          refine ⟨rfl, yesI ?_⟩
          refine ⟨_, rfl, _, rfl, p, 26, rfl, b4, by decide, by decide, fun z H5 z0 z1 sb5 b5 => ?_⟩
          refine ⟨LETR, z, 97 + z.toNat, rfl, rfl, by decide, ?_, ys.map V.str, sb5 _ _ hyD hlp, ?_, ?_, ?_, ys ++ [⟨#[97 + z.toNat]⟩], ?_, ?_, ?_⟩
          · exact letr_at z0 z1
          · rw [List.length_map]
            exact small1000 (by omega)
          · exact fun b o e nb => by
              rw [upd_ne (ne_of_none e nl)]
              exact sb5 _ _ (sb4 _ _ e nb) nb
          · exact b5.upd hlp
          · simp [hy]
          · intro y hy'
            rcases List.mem_append.mp hy' with h | h
            · exact hy1 y h
            · cases List.mem_singleton.mp h
              exact ⟨rfl, fun c hc => by have : c = 97 + z.toNat := by simpa using hc
                                         omega⟩
          · rw [upd_same]
            simp
        · rintro H4 ⟨sb4, b4, ys, hy, hy1, hyD⟩
          have hone : ∀ y ∈ ys, y.length = 1 := fun y h => (hy1 y h).1
          have hlen : (Txt.join "" ys).length = ys.length := join_len ys hone
          have hbs : ∀ c ∈ (Txt.join "" ys).cps.toList, 97 ≤ c ∧ c ≤ 122 := fun c hc => by
            rw [join_tl] at hc
            obtain ⟨l, hl, hcl⟩ := joinL_nil_mem _ hc
            obtain ⟨y, hym, rfl⟩ := List.mem_map.mp hl
            exact (hy1 y hym).2 c hcl
          refine ⟨_, lp, ys, rfl, rfl, .inl (SqL.of hyD), ?_, ?_⟩
          · rw [sum_ones ys hone]
            show ys.length + ys.length * 0 ≤ 16777216
            omega
          generalize Txt.join "" ys = bas at *
          have hb4 : bas.length ≤ 4 := by omega
          have sbA : SameB p H H4 := ((s1.b.trans sb2).trans sb3).trans sb4
          refine ⟨_, rfl, _, rfl, _, _, rfl, ⟨small_line (by omega), rfl⟩, _, _, rfl, rfl, p, _, rfl, b4, by omega, by omega, fun pl H5 pl0 pl1 sb5 b5 => ?_⟩
          refine ⟨_, rfl, p, 26, rfl, b5, by decide, by decide, fun fs H6 fs0 fs1 sb6 b6 => ?_⟩
          refine ⟨(by show 0 ≤ sizeLine; decide), fun q nq => ?_⟩
          have sbB : SameB p H H6 := (sbA.trans sb5).trans sb6
          have hq0 : H q = none := sbB.free nq (b6.ne nq)
          have hqp : q ≠ p := b6.ne nq
          have hplb : pl.toNat ≤ bas.length := by omega
          refine ⟨_, rfl, m, rfl, by omega, by omega, for_range (lo := 0) (n := m.toNat) (fun i σ H7 => ∃ v4 v5, σ = [some (.ref p), some (.int m), some (.str LETR), some (.ref wp), some (.int pl), v4, some (.str bas), some (.int fs), some (.ref q), v5] ∧ SameB p H H7 ∧ Bx H7 p ∧ i ≤ m.toNat ∧
            H7 q = some (.lst (((List.range i).map (nmS bas.cps.toList pl.toNat fs.toNat)).map V.str))) ⟨_, _, rfl, sbB.trans (same_new nq).b, b6.same (same_new nq), Nat.zero_le _, upd_same⟩ ?_ ?_⟩
          · rintro i σ H7 hi ⟨v4, v5, rfl, sb7, b7, _, h7⟩
            have i30 : i < 30 := by omega
            have em : (fs + 7 * (0 + (i : Int))) % 26 = (((fs.toNat + 7 * i) % 26 : Nat) : Int) := by omega
            have hlt : (fs + 7 * (0 + (i : Int))) % 26 < 26 := Int.emod_lt_of_pos _ (by decide)
            have hge : 0 ≤ (fs + 7 * (0 + (i : Int))) % 26 := Int.emod_nonneg _ (by decide)
            refine ⟨_, rfl, _, rfl, _, rfl, _, _, rfl, rfl, .inl ⟨by decide, by decide⟩, _, _, rfl, rfl, _, _, rfl, rfl, (by show (0 : Int) < 26; decide), LETR, _, 97 + (fs.toNat + 7 * i) % 26, rfl, rfl, by decide, ?_, (by show 2 ≤ sizeLine; decide), fun zp nz => ?_⟩
            · rw [letr_at hge hlt, em]
              rfl
            have zq : zp ≠ q := (ne_of_none h7 nz).symm
            have zz : zp ≠ p := b7.ne nz
            generalize e8 : upd H7 zp _ = H8
            have s8 := upd_sm e8 nz
            have h8 := s8 _ _ h7
            refine ⟨_, rfl, _, _, rfl, rfl, ⟨by decide, by decide⟩, zp, _, _, _, rfl, rfl, SqL.of (upd_at e8), zero_at i30, _, _, rfl, rfl, ?_, ?_⟩
            · have := zero_len i
              exact small_line (by show 1 + _ ≤ 1000000; omega)
            generalize hsg : (⟨#[97 + (fs.toNat + 7 * i) % 26]⟩ ++ zS i : Str) = sg
            have hsl : sg.length ≤ 2 := by
              rw [← hsg, app_len]
              have := zero_len i
              show 1 + _ ≤ 2
              omega
            have ec := fun lo hi => cutS_len bas lo hi
            have ez := cutS_len "z9"
            have ez2 : ("z9" : Str).length = 2 := by decide +kernel
            refine ⟨_, rfl, .inl ⟨rfl, _, SqL.of h8⟩, _, rfl, _, rfl, _, rfl, _, rfl, small_line (by omega), _, rfl, _, _, rfl, rfl, ?_, _, rfl, _, rfl, _, rfl, _, rfl, small_line (by omega), _, _, rfl, rfl, ?_, _, rfl, _, _, rfl, rfl, (by show (0 : Int) < 3; decide), _, rfl, _, rfl, (by decide +kernel), _, _, rfl, rfl, ?_, q, _, _, rfl, rfl, h8, ?_, ?_⟩
            · have := ec none (some pl)
              exact small_line (by omega)
            · have := ec none (some pl)
              have := ec (some pl) none
              rw [app_len]
              exact small_line (by omega)
            · have := ec none (some pl)
              have := ec (some pl) none
              have := ez none (some ((0 + (i : Int)) % 3))
              rw [app_len, app_len]
              exact small_line (by omega)
            · simp only [List.length_map, List.length_range]
              exact small1000 (by omega)
            refine ⟨_, _, rfl, fun b o e nb => ?_, ?_, hi, ?_⟩
            · rw [upd_ne (ne_of_none e hq0)]
              exact s8 _ _ (sb7 _ _ e nb)
            · exact (b7.same s8).upd hqp
            · rw [upd_same, List.range_succ]
              have en := nm_str (base := bas) (pl := pl.toNat) (fs := fs.toNat) (k := i) hplb
              rw [Int.toNat_of_nonneg pl0, hsg] at en
              have e3 : (0 + (i : Int)) % 3 = ((i % 3 : Nat) : Int) := by omega
              rw [e3, en]
              simp
          · rintro σ H7 ⟨v4, v5, rfl, sb7, b7, _, h7⟩
            refine ⟨_, rfl, k q _ H7 sb7 b7 hq0 h7 (by simp; omega) (nm_nodup hbs (by omega)) ?_⟩
            intro z hz
            obtain ⟨j, _, rfl⟩ := List.mem_map.mp hz
            exact nm_ok hbs (by rw [len_list]; exact hb4)
    ·
      refine ⟨⟨_, rfl⟩, _, rfl, p, 5, rfl, b1, (by decide), (by decide), fun n H3 n0 n1 sb3 b3 => ⟨n, rfl, by omega, by omega, fun lp nl => ?_⟩⟩
      have hlp : lp ≠ p := b3.ne nl
      refine lc_range (lo := 0) (n := n.toNat) (fun i H4 => SameB p H3 H4 ∧ Bx H4 p ∧ ∃ ys : List Str, ys.length = i ∧ (∀ y ∈ ys, y.length = 1 ∧ ∀ c ∈ y.cps.toList, 97 ≤ c ∧ c ≤ 122) ∧ H4 lp = some (.lst (ys.map V.str)))
        ⟨(same_new nl).b, b3.same (same_new nl), [], rfl, fun y hy => (nomatch hy), upd_same⟩ ?_ ?_
      · rintro i H4 hi ⟨sb4, b4, ys, hy, hy1, hyD⟩
        refine ⟨rfl, yesI ?_⟩
        refine ⟨_, rfl, _, rfl, p, 26, rfl, b4, by decide, by decide, fun z H5 z0 z1 sb5 b5 => ?_⟩
        refine ⟨LETR, z, 97 + z.toNat, rfl, rfl, by decide, ?_, ys.map V.str, sb5 _ _ hyD hlp, ?_, ?_, ?_, ys ++ [⟨#[97 + z.toNat]⟩], ?_, ?_, ?_⟩
        · exact letr_at z0 z1
        · rw [List.length_map]
          exact small1000 (by omega)
        · exact fun b o e nb => by
            rw [upd_ne (ne_of_none e nl)]
            exact sb5 _ _ (sb4 _ _ e nb) nb
        · exact b5.upd hlp
        · simp [hy]
        · intro y hy'
          rcases List.mem_append.mp hy' with h | h
          · exact hy1 y h
          · cases List.mem_singleton.mp h
            exact ⟨rfl, fun c hc => by have : c = 97 + z.toNat := by simpa using hc
                                       omega⟩
        · rw [upd_same]
          simp
      · rintro H4 ⟨sb4, b4, ys, hy, hy1, hyD⟩
        have hone : ∀ y ∈ ys, y.length = 1 := fun y h => (hy1 y h).1
        have hlen : (Txt.join "" ys).length = ys.length := join_len ys hone
        have hbs : ∀ c ∈ (Txt.join "" ys).cps.toList, 97 ≤ c ∧ c ≤ 122 := fun c hc => by
          rw [join_tl] at hc
          obtain ⟨l, hl, hcl⟩ := joinL_nil_mem _ hc
          obtain ⟨y, hym, rfl⟩ := List.mem_map.mp hl
          exact (hy1 y hym).2 c hcl
        refine ⟨_, lp, ys, rfl, rfl, .inl (SqL.of hyD), ?_, ?_⟩
        · rw [sum_ones ys hone]
          show ys.length + ys.length * 0 ≤ 16777216
          omega
        generalize Txt.join "" ys = bas at *
        have hb4 : bas.length ≤ 4 := by omega
        have sbA : SameB p H H4 := (s1.b.trans sb3).trans sb4
        refine ⟨_, rfl, _, rfl, _, _, rfl, ⟨small_line (by omega), rfl⟩, _, _, rfl, rfl, p, _, rfl, b4, by omega, by omega, fun pl H5 pl0 pl1 sb5 b5 => ?_⟩
        refine ⟨_, rfl, p, 26, rfl, b5, by decide, by decide, fun fs H6 fs0 fs1 sb6 b6 => ?_⟩
        refine ⟨(by show 0 ≤ sizeLine; decide), fun q nq => ?_⟩
        have sbB : SameB p H H6 := (sbA.trans sb5).trans sb6
        have hq0 : H q = none := sbB.free nq (b6.ne nq)
        have hqp : q ≠ p := b6.ne nq
        have hplb : pl.toNat ≤ bas.length := by omega
        refine ⟨_, rfl, m, rfl, by omega, by omega, for_range (lo := 0) (n := m.toNat) (fun i σ H7 => ∃ v4 v5, σ = [some (.ref p), some (.int m), some (.str LETR), some (.ref wp), some (.int pl), v4, some (.str bas), some (.int fs), some (.ref q), v5] ∧ SameB p H H7 ∧ Bx H7 p ∧ i ≤ m.toNat ∧
          H7 q = some (.lst (((List.range i).map (nmS bas.cps.toList pl.toNat fs.toNat)).map V.str))) ⟨_, _, rfl, sbB.trans (same_new nq).b, b6.same (same_new nq), Nat.zero_le _, upd_same⟩ ?_ ?_⟩
        · rintro i σ H7 hi ⟨v4, v5, rfl, sb7, b7, _, h7⟩
          have i30 : i < 30 := by omega
          have em : (fs + 7 * (0 + (i : Int))) % 26 = (((fs.toNat + 7 * i) % 26 : Nat) : Int) := by omega
          have hlt : (fs + 7 * (0 + (i : Int))) % 26 < 26 := Int.emod_lt_of_pos _ (by decide)
          have hge : 0 ≤ (fs + 7 * (0 + (i : Int))) % 26 := Int.emod_nonneg _ (by decide)
          refine ⟨_, rfl, _, rfl, _, rfl, _, _, rfl, rfl, .inl ⟨by decide, by decide⟩, _, _, rfl, rfl, _, _, rfl, rfl, (by show (0 : Int) < 26; decide), LETR, _, 97 + (fs.toNat + 7 * i) % 26, rfl, rfl, by decide, ?_, (by show 2 ≤ sizeLine; decide), fun zp nz => ?_⟩
          · rw [letr_at hge hlt, em]
            rfl
          have zq : zp ≠ q := (ne_of_none h7 nz).symm
          have zz : zp ≠ p := b7.ne nz
          generalize e8 : upd H7 zp _ = H8
          have s8 := upd_sm e8 nz
          have h8 := s8 _ _ h7
          refine ⟨_, rfl, _, _, rfl, rfl, ⟨by decide, by decide⟩, zp, _, _, _, rfl, rfl, SqL.of (upd_at e8), zero_at i30, _, _, rfl, rfl, ?_, ?_⟩
          · have := zero_len i
            exact small_line (by show 1 + _ ≤ 1000000; omega)
          generalize hsg : (⟨#[97 + (fs.toNat + 7 * i) % 26]⟩ ++ zS i : Str) = sg
          have hsl : sg.length ≤ 2 := by
            rw [← hsg, app_len]
            have := zero_len i
            show 1 + _ ≤ 2
            omega
          have ec := fun lo hi => cutS_len bas lo hi
          have ez := cutS_len "z9"
          have ez2 : ("z9" : Str).length = 2 := by decide +kernel
          refine ⟨_, rfl, .inl ⟨rfl, _, SqL.of h8⟩, _, rfl, _, rfl, _, rfl, _, rfl, small_line (by omega), _, rfl, _, _, rfl, rfl, ?_, _, rfl, _, rfl, _, rfl, _, rfl, small_line (by omega), _, _, rfl, rfl, ?_, _, rfl, _, _, rfl, rfl, (by show (0 : Int) < 3; decide), _, rfl, _, rfl, (by decide +kernel), _, _, rfl, rfl, ?_, q, _, _, rfl, rfl, h8, ?_, ?_⟩
          · have := ec none (some pl)
            exact small_line (by omega)
          · have := ec none (some pl)
            have := ec (some pl) none
            rw [app_len]
            exact small_line (by omega)
          · have := ec none (some pl)
            have := ec (some pl) none
            have := ez none (some ((0 + (i : Int)) % 3))
            rw [app_len, app_len]
            exact small_line (by omega)
          · simp only [List.length_map, List.length_range]
            exact small1000 (by omega)
          refine ⟨_, _, rfl, fun b o e nb => ?_, ?_, hi, ?_⟩
          · rw [upd_ne (ne_of_none e hq0)]
            exact s8 _ _ (sb7 _ _ e nb)
          · exact (b7.same s8).upd hqp
          · rw [upd_same, List.range_succ]
            have en := nm_str (base := bas) (pl := pl.toNat) (fs := fs.toNat) (k := i) hplb
            rw [Int.toNat_of_nonneg pl0, hsg] at en
            have e3 : (0 + (i : Int)) % 3 = ((i % 3 : Nat) : Int) := by omega
            rw [e3, en]
            simp
        · rintro σ H7 ⟨v4, v5, rfl, sb7, b7, _, h7⟩
          refine ⟨_, rfl, k q _ H7 sb7 b7 hq0 h7 (by simp; omega) (nm_nodup hbs (by omega)) ?_⟩
          intro z hz
          obtain ⟨j, _, rfl⟩ := List.mem_map.mp hz
          exact nm_ok hbs (by rw [len_list]; exact hb4)
end

end K05

set_option Elab.async false
set_option linter.all false
set_option maxRecDepth 100000
set_option maxHeartbeats 4000000
namespace K05
open PySem L2
structure RowOk (r : Row) : Prop where
  n : isNm r.n = true
  f0 : 0 ≤ r.f
  f1 : r.f ≤ 200
  l0 : 0 ≤ r.l
  l1 : r.f - 1 ≤ r.l
  l2 : r.l ≤ 199
  g0 : 1 ≤ r.g
  g1 : r.g ≤ 12
  r0 : 0 ≤ r.r
  r1 : r.r ≤ r.g
structure RowsOk (rs : List Row) : Prop where
  ok : ∀ r ∈ rs, RowOk r
  nd : (rs.map (·.n)).Nodup
  few : rs.length ≤ 30
def sp_lrows : Sp := fun vs H Q _ => ∃ p m, vs = [.ref p, .int m] ∧ Bx H p ∧ 0 ≤ m ∧ m ≤ 30 ∧ ∀ (q : Addr) (L : Rws) (H' : Hp), SameB p H H' → Bx H' p → H q = none → H' q = some (.lst (refs L)) → TL H' L → (∀ r ∈ L, H r.1 = none) → RowsOk (L.map (·.2)) → (L.length : Int) ≤ m → Q (.ref q) H'
theorem TL.box {H H' : Hp} {L : Rws} {p : Addr} (h : TL H L) (s : SameB p H H') (b : Bx H p) : TL H' L := let ⟨_, _, _, e⟩ := b; h.sameB s e
structure LrC (p nq rp : Addr) (ss : List Str) (L : Rws) (H0 H : Hp) : Prop where
  sb : SameB p H0 H
  bx : Bx H p
  hn : H nq = some (.lst (ss.map V.str))
  hr : H rp = some (.lst (refs L))
  tl : TL H L
theorem LrC.tk {p nq rp : Addr} {ss : List Str} {L : Rws} {H0 H H' : Hp} (c : LrC p nq rp ss L H0 H) (s : SameB p H H') (b : Bx H' p) (n1 : nq ≠ p) (n2 : rp ≠ p) : LrC p nq rp ss L H0 H' := ⟨c.sb.trans s, b, s _ _ c.hn n1, s _ _ c.hr n2, c.tl.box s c.bx⟩
theorem LrC.nw {p nq rp : Addr} {ss : List Str} {L : Rws} {H0 H H' : Hp} (c : LrC p nq rp ss L H0 H) (s : Same H H') : LrC p nq rp ss L H0 H' := ⟨c.sb.trans s.b, c.bx.same s, s _ _ c.hn, s _ _ c.hr, c.tl.same s⟩
section
variable {P : Program} {w : World} {K : PySem.W.Frag} {mg : Str → Option Value} {base : Heap} {D : Ad}
abbrev s__law_rows : Stmt := top 26
theorem sc__law_rows : FnScope ["_law_box_here", "_law_most", "_law_turns", "_law_long", "_law_rows_here", "_law_name", "_law_first", "_law_last", "_law_length", "_law_left"] ["_law_box_here", "_law_most"] (defScope s__law_rows) := ⟨rfl, rfl, rfl, by decide +kernel, rfl, by decide +kernel, by decide +kernel⟩
theorem ok__law_rows {f : Addr} {fd : FuncData} (F : Fun K "_law_rows" "_law_rows" s__law_rows f fd) (T : Txt K mg D) (c__law_names : CalF P w K mg base 2 "_law_names" ["_law_box_here", "_law_many"] (sp_lnames)) (c__law_take : CalF P w K mg base 1 "_law_take" ["_law_box_here", "_law_many"] (sp_take)) : FnOk P w K mg base CX0 3 f fd ["_law_box_here", "_law_most"] (sp_lrows) := by
  refine F.ok sc__law_rows (fun vs H Q E h => ?_) (fun cdv A outer s H vs Q E hr h => ?_)
  · obtain ⟨p, m, rfl, hb, m0, m1, k⟩ := h
    rfl
  · obtain ⟨p, m, rfl, hb, m0, m1, k⟩ := h
    refine ⟨_, (@pss_cons _ _ _ _ _ (@ps_set _ _ 2 _ _ _ _ sc__law_rows.nd rfl (by first | exact Or.inl rfl | exact Or.inr rfl) (@pe_ix _ _ _ _ _ _ _ (ix_listK (K := K) rfl) (@pe_lst _ _ _ _ (@pa_c _ _ _ _ _ (@pe_int _ _ _ _) (@pa_c _ _ _ _ _ (@pe_int _ _ _ _) (@pa_c _ _ _ _ _ (@pe_int _ _ _ _) (@pa_c _ _ _ _ _ (@pe_int _ _ _ _) (@pa_nil _) (by rfl)) (by rfl)) (by rfl)) (by rfl))) (@pe_fun _ _ _ _ _ _ _ _ _ _ _ c__law_take hr (@pa_c _ _ _ _ _ (@pv _ 0 _ _ (by rfl) (by first | exact Or.inl rfl | exact Or.inr (Or.inl rfl) | exact Or.inr (Or.inr rfl)) (by decide) (by decide)) (@pa_c _ _ _ _ _ (@pe_int _ _ _ _) (@pa_nil _) (by rfl)) (by rfl)) (by rfl) (by decide) (by decide) (by rfl) (by rfl)) (fun _ _ => rfl)) (by rfl) (by first | exact .inl rfl | exact .inr rfl | assumption)) 
      (@pss_cons _ _ _ _ _ (@ps_set _ _ 3 _ _ _ _ sc__law_rows.nd rfl (by first | exact Or.inl rfl | exact Or.inr rfl) (@pe_ix _ _ _ _ _ _ _ (ix_listK (K := K) rfl) (@pe_lst _ _ _ _ (@pa_c _ _ _ _ _ (@pe_int _ _ _ _) (@pa_c _ _ _ _ _ (@pe_int _ _ _ _) (@pa_c _ _ _ _ _ (@pe_int _ _ _ _) (@pa_nil _) (by rfl)) (by rfl)) (by rfl))) (@pe_fun _ _ _ _ _ _ _ _ _ _ _ c__law_take hr (@pa_c _ _ _ _ _ (@pv _ 0 _ _ (by rfl) (by first | exact Or.inl rfl | exact Or.inr (Or.inl rfl) | exact Or.inr (Or.inr rfl)) (by decide) (by decide)) (@pa_c _ _ _ _ _ (@pe_int _ _ _ _) (@pa_nil _) (by rfl)) (by rfl)) (by rfl) (by decide) (by decide) (by rfl) (by rfl)) (fun _ _ => rfl)) (by rfl) (by first | exact .inl rfl | exact .inr rfl | assumption)) 
      (@pss_cons _ _ _ _ _ (@ps_set _ _ 4 _ _ _ _ sc__law_rows.nd rfl (by first | exact Or.inl rfl | exact Or.inr rfl) (@pe_lst _ _ _ _ (@pa_nil _)) (by rfl) (by first | exact .inl rfl | exact .inr rfl | assumption)) 
      (@pss_cons _ _ _ _ _ (@ps_for _ _ _ _ _ _ _ _ PassesOwn.never rfl (@pi_list _ _ _ _ (@pe_fun _ _ _ _ _ _ _ _ _ _ _ c__law_names hr (@pa_c _ _ _ _ _ (@pv _ 0 _ _ (by rfl) (by first | exact Or.inl rfl | exact Or.inr (Or.inl rfl) | exact Or.inr (Or.inr rfl)) (by decide) (by decide)) (@pa_c _ _ _ _ _ (@pe_callB _ _ _ _ _ _ _ _ _ (call_max2 rfl) (by rfl) T.b_max (by decide +kernel) (@pa_c _ _ _ _ _ (@pe_fun _ _ _ _ _ _ _ _ _ _ _ c__law_take hr (@pa_c _ _ _ _ _ (@pv _ 0 _ _ (by rfl) (by first | exact Or.inl rfl | exact Or.inr (Or.inl rfl) | exact Or.inr (Or.inr rfl)) (by decide) (by decide)) (@pa_c _ _ _ _ _ (@pe_op _ _ _ _ _ _ _ _ op_add (@pv _ 1 _ _ (by rfl) (by first | exact Or.inl rfl | exact Or.inr (Or.inl rfl) | exact Or.inr (Or.inr rfl)) (by decide) (by decide)) (@pe_int _ _ _ _)) (@pa_nil _) (by rfl)) (by rfl)) (by rfl) (by decide) (by decide) (by rfl) (by rfl)) (@pa_c _ _ _ _ _ (@pe_fun _ _ _ _ _ _ _ _ _ _ _ c__law_take hr (@pa_c _ _ _ _ _ (@pv _ 0 _ _ (by rfl) (by first | exact Or.inl rfl | exact Or.inr (Or.inl rfl) | exact Or.inr (Or.inr rfl)) (by decide) (by decide)) (@pa_c _ _ _ _ _ (@pe_op _ _ _ _ _ _ _ _ op_add (@pv _ 1 _ _ (by rfl) (by first | exact Or.inl rfl | exact Or.inr (Or.inl rfl) | exact Or.inr (Or.inr rfl)) (by decide) (by decide)) (@pe_int _ _ _ _)) (@pa_nil _) (by rfl)) (by rfl)) (by rfl) (by decide) (by decide) (by rfl) (by rfl)) (@pa_nil _) (by rfl)) (by rfl)) (by decide) (by decide) (by rfl) (by rfl)) (@pa_nil _) (by rfl)) (by rfl)) (by rfl) (by decide) (by decide) (by rfl) (by rfl))) (@pg_name _ _ 5 _ sc__law_rows.nd rfl (by first | exact Or.inl rfl | exact Or.inr rfl) (by first | exact .inl rfl | exact .inr rfl | assumption)) (@pss_cons _ _ _ _ _ (@ps_set _ _ 6 _ _ _ _ sc__law_rows.nd rfl (by first | exact Or.inl rfl | exact Or.inr rfl) (@pe_fun _ _ _ _ _ _ _ _ _ _ _ c__law_take hr (@pa_c _ _ _ _ _ (@pv _ 0 _ _ (by rfl) (by first | exact Or.inl rfl | exact Or.inr (Or.inl rfl) | exact Or.inr (Or.inr rfl)) (by decide) (by decide)) (@pa_c _ _ _ _ _ (@pv _ 2 _ _ (by rfl) (by first | exact Or.inl rfl | exact Or.inr (Or.inl rfl) | exact Or.inr (Or.inr rfl)) (by decide) (by decide)) (@pa_nil _) (by rfl)) (by rfl)) (by rfl) (by decide) (by decide) (by rfl) (by rfl)) (by rfl) (by first | exact .inl rfl | exact .inr rfl | assumption)) 
      (@pss_cons _ _ _ _ _ (@ps_set _ _ 7 _ _ _ _ sc__law_rows.nd rfl (by first | exact Or.inl rfl | exact Or.inr rfl) (@pe_callB _ _ _ _ _ _ _ _ _ (call_min2 rfl) (by rfl) T.b_min (by decide +kernel) (@pa_c _ _ _ _ _ (@pe_int _ _ _ _) (@pa_c _ _ _ _ _ (@pe_op _ _ _ _ _ _ _ _ op_add (@pv _ 6 _ _ (by rfl) (by first | exact Or.inl rfl | exact Or.inr (Or.inl rfl) | exact Or.inr (Or.inr rfl)) (by decide) (by decide)) (@pe_ix _ _ _ _ _ _ _ (ix_listK (K := K) rfl) (@pe_lst _ _ _ _ (@pa_c _ _ _ _ _ (@pe_fun _ _ _ _ _ _ _ _ _ _ _ c__law_take hr (@pa_c _ _ _ _ _ (@pv _ 0 _ _ (by rfl) (by first | exact Or.inl rfl | exact Or.inr (Or.inl rfl) | exact Or.inr (Or.inr rfl)) (by decide) (by decide)) (@pa_c _ _ _ _ _ (@pe_int _ _ _ _) (@pa_nil _) (by rfl)) (by rfl)) (by rfl) (by decide) (by decide) (by rfl) (by rfl)) (@pa_c _ _ _ _ _ (@pe_fun _ _ _ _ _ _ _ _ _ _ _ c__law_take hr (@pa_c _ _ _ _ _ (@pv _ 0 _ _ (by rfl) (by first | exact Or.inl rfl | exact Or.inr (Or.inl rfl) | exact Or.inr (Or.inr rfl)) (by decide) (by decide)) (@pa_c _ _ _ _ _ (@pv _ 2 _ _ (by rfl) (by first | exact Or.inl rfl | exact Or.inr (Or.inl rfl) | exact Or.inr (Or.inr rfl)) (by decide) (by decide)) (@pa_nil _) (by rfl)) (by rfl)) (by rfl) (by decide) (by decide) (by rfl) (by rfl)) (@pa_c _ _ _ _ _ (@pe_int _ _ _ _) (@pa_nil _) (by rfl)) (by rfl)) (by rfl))) (@pe_fun _ _ _ _ _ _ _ _ _ _ _ c__law_take hr (@pa_c _ _ _ _ _ (@pv _ 0 _ _ (by rfl) (by first | exact Or.inl rfl | exact Or.inr (Or.inl rfl) | exact Or.inr (Or.inr rfl)) (by decide) (by decide)) (@pa_c _ _ _ _ _ (@pe_int _ _ _ _) (@pa_nil _) (by rfl)) (by rfl)) (by rfl) (by decide) (by decide) (by rfl) (by rfl)) (fun _ _ => rfl))) (@pa_nil _) (by rfl)) (by rfl)) (by decide) (by decide) (by rfl) (by rfl)) (by rfl) (by first | exact .inl rfl | exact .inr rfl | assumption)) 
      (@pss_cons _ _ _ _ _ (@ps_if _ _ _ _ _ _ _ _ (@pt_cmpR _ _ _ _ _ _ _ _ op_eq (@pe_fun _ _ _ _ _ _ _ _ _ _ _ c__law_take hr (@pa_c _ _ _ _ _ (@pv _ 0 _ _ (by rfl) (by first | exact Or.inl rfl | exact Or.inr (Or.inl rfl) | exact Or.inr (Or.inr rfl)) (by decide) (by decide)) (@pa_c _ _ _ _ _ (@pe_int _ _ _ _) (@pa_nil _) (by rfl)) (by rfl)) (by rfl) (by decide) (by decide) (by rfl) (by rfl)) (@pe_int _ _ _ _) (nomark _)) (@pss_one _ _ _ (@ps_set _ _ 6 _ _ _ _ sc__law_rows.nd rfl (by first | exact Or.inl rfl | exact Or.inr rfl) (@pe_op _ _ _ _ _ _ _ _ op_add (@pv _ 7 _ _ (by rfl) (by first | exact Or.inl rfl | exact Or.inr (Or.inl rfl) | exact Or.inr (Or.inr rfl)) (by decide) (by decide)) (@pe_int _ _ _ _)) (by rfl) (by first | exact .inl rfl | exact .inr rfl | assumption))) (@pss_nil _)) 
      (@pss_cons _ _ _ _ _ (@ps_set _ _ 8 _ _ _ _ sc__law_rows.nd rfl (by first | exact Or.inl rfl | exact Or.inr rfl) (@pe_op _ _ _ _ _ _ _ _ op_add (@pe_int _ _ _ _) (@pe_fun _ _ _ _ _ _ _ _ _ _ _ c__law_take hr (@pa_c _ _ _ _ _ (@pv _ 0 _ _ (by rfl) (by first | exact Or.inl rfl | exact Or.inr (Or.inl rfl) | exact Or.inr (Or.inr rfl)) (by decide) (by decide)) (@pa_c _ _ _ _ _ (@pv _ 3 _ _ (by rfl) (by first | exact Or.inl rfl | exact Or.inr (Or.inl rfl) | exact Or.inr (Or.inr rfl)) (by decide) (by decide)) (@pa_nil _) (by rfl)) (by rfl)) (by rfl) (by decide) (by decide) (by rfl) (by rfl))) (by rfl) (by first | exact .inl rfl | exact .inr rfl | assumption)) 
      (@pss_cons _ _ _ _ _ (@ps_set _ _ 9 _ _ _ _ sc__law_rows.nd rfl (by first | exact Or.inl rfl | exact Or.inr rfl) (@pe_ix _ _ _ _ _ _ _ (ix_listK (K := K) rfl) (@pe_lst _ _ _ _ (@pa_c _ _ _ _ _ (@pv _ 8 _ _ (by rfl) (by first | exact Or.inl rfl | exact Or.inr (Or.inl rfl) | exact Or.inr (Or.inr rfl)) (by decide) (by decide)) (@pa_c _ _ _ _ _ (@pv _ 8 _ _ (by rfl) (by first | exact Or.inl rfl | exact Or.inr (Or.inl rfl) | exact Or.inr (Or.inr rfl)) (by decide) (by decide)) (@pa_c _ _ _ _ _ (@pe_fun _ _ _ _ _ _ _ _ _ _ _ c__law_take hr (@pa_c _ _ _ _ _ (@pv _ 0 _ _ (by rfl) (by first | exact Or.inl rfl | exact Or.inr (Or.inl rfl) | exact Or.inr (Or.inr rfl)) (by decide) (by decide)) (@pa_c _ _ _ _ _ (@pe_op _ _ _ _ _ _ _ _ op_add (@pv _ 8 _ _ (by rfl) (by first | exact Or.inl rfl | exact Or.inr (Or.inl rfl) | exact Or.inr (Or.inr rfl)) (by decide) (by decide)) (@pe_int _ _ _ _)) (@pa_nil _) (by rfl)) (by rfl)) (by rfl) (by decide) (by decide) (by rfl) (by rfl)) (@pa_c _ _ _ _ _ (@pe_int _ _ _ _) (@pa_nil _) (by rfl)) (by rfl)) (by rfl)) (by rfl))) (@pe_fun _ _ _ _ _ _ _ _ _ _ _ c__law_take hr (@pa_c _ _ _ _ _ (@pv _ 0 _ _ (by rfl) (by first | exact Or.inl rfl | exact Or.inr (Or.inl rfl) | exact Or.inr (Or.inr rfl)) (by decide) (by decide)) (@pa_c _ _ _ _ _ (@pe_int _ _ _ _) (@pa_nil _) (by rfl)) (by rfl)) (by rfl) (by decide) (by decide) (by rfl) (by rfl)) (fun _ _ => rfl)) (by rfl) (by first | exact .inl rfl | exact .inr rfl | assumption)) 
      (@pss_one _ _ _ (@ps_expr _ _ _ _ (@pe_bm _ _ _ _ _ _ _ _ _ _ _ _ PySem.F.plainAttrs_list PySem.F.slot_list_append PySem.F.type_list_append mt_append (@pv _ 4 _ _ (by rfl) (by first | exact Or.inl rfl | exact Or.inr (Or.inl rfl) | exact Or.inr (Or.inr rfl)) (by decide) (by decide)) (@pa_c _ _ _ _ _ (@pe_tup _ _ _ _ _ (@pa_c _ _ _ _ _ (@pv _ 5 _ _ (by rfl) (by first | exact Or.inl rfl | exact Or.inr (Or.inl rfl) | exact Or.inr (Or.inr rfl)) (by decide) (by decide)) (@pa_c _ _ _ _ _ (@pv _ 6 _ _ (by rfl) (by first | exact Or.inl rfl | exact Or.inr (Or.inl rfl) | exact Or.inr (Or.inr rfl)) (by decide) (by decide)) (@pa_c _ _ _ _ _ (@pv _ 7 _ _ (by rfl) (by first | exact Or.inl rfl | exact Or.inr (Or.inl rfl) | exact Or.inr (Or.inr rfl)) (by decide) (by decide)) (@pa_c _ _ _ _ _ (@pv _ 8 _ _ (by rfl) (by first | exact Or.inl rfl | exact Or.inr (Or.inl rfl) | exact Or.inr (Or.inr rfl)) (by decide) (by decide)) (@pa_c _ _ _ _ _ (@pv _ 9 _ _ (by rfl) (by first | exact Or.inl rfl | exact Or.inr (Or.inl rfl) | exact Or.inr (Or.inr rfl)) (by decide) (by decide)) (@pa_nil _) (by rfl)) (by rfl)) (by rfl)) (by rfl)) (by rfl))) (@pa_nil _) (by rfl)) (by rfl) (by rfl) (by rfl) (by rfl) (by rfl)) (by rfl)))))))) (by intro _; rfl)) 
      (@pss_one _ _ _ (@ps_ret _ _ _ _ (@pv _ 4 _ _ (by rfl) (by first | exact Or.inl rfl | exact Or.inr (Or.inl rfl) | exact Or.inr (Or.inr rfl)) (by decide) (by decide)))))))), ?_⟩
    refine ⟨(by show 4 ≤ sizeLine; decide), fun a1 n1 => ?_⟩
    generalize e1 : upd H a1 _ = H1
    have s1 := upd_sm e1 n1
    refine ⟨_, rfl, p, 4, rfl, hb.same s1, (by decide), (by decide), fun z1 H2 z10 z11 sb2 b2 => ?_⟩
    obtain ⟨v, hat, tu, rfl, tu0, tu1⟩ := pick (P := fun v => ∃ t, v = V.int t ∧ 1 ≤ t ∧ t ≤ 200) (n := 4) (upd_at e1) rfl z10 z11
      (all_cons ⟨_, rfl, by decide, by decide⟩ (all_cons ⟨_, rfl, by decide, by decide⟩ (all_cons ⟨_, rfl, by decide, by decide⟩ (all_cons ⟨_, rfl, by decide, by decide⟩ all_nil))))
    refine ⟨a1, _, _, _, rfl, rfl, SqL.of (sb2 _ _ (upd_at e1) (hb.ne n1)), hat, ?_⟩
    refine ⟨(by show 3 ≤ sizeLine; decide), fun a2 n2 => ?_⟩
    generalize e2 : upd H2 a2 _ = H3
    have s3 := upd_sm e2 n2
    refine ⟨_, rfl, p, 3, rfl, b2.same s3, (by decide), (by decide), fun z2 H4 z20 z21 sb4 b4 => ?_⟩
    obtain ⟨v, hat2, lo, rfl, lo0, lo1⟩ := pick (P := fun v => ∃ t, v = V.int t ∧ 1 ≤ t ∧ t ≤ 12) (n := 3) (upd_at e2) rfl z20 z21
      (all_cons ⟨_, rfl, by decide, by decide⟩ (all_cons ⟨_, rfl, by decide, by decide⟩ (all_cons ⟨_, rfl, by decide, by decide⟩ all_nil)))
    refine ⟨a2, _, _, _, rfl, rfl, SqL.of (sb4 _ _ (upd_at e2) (b2.ne n2)), hat2, ?_⟩
    have sbA : SameB p H H4 := ((s1.b.trans sb2).trans s3.b).trans sb4
    refine ⟨(by show 0 ≤ sizeLine; decide), fun rp nr => ?_⟩
    generalize e5 : upd H4 rp _ = H5
    have s5 := upd_sm e5 nr
    have b5 := b4.same s5
    have rne : rp ≠ p := b4.ne nr
    have hr0 : H rp = none := sbA.free nr rne
    refine ⟨_, rfl, _, rfl, _, rfl, _, _, rfl, rfl, p, _, rfl, b5, by omega, by omega, fun y1 H6 y10 y11 sb6 b6 => ?_⟩
    refine ⟨_, rfl, _, rfl, _, _, rfl, rfl, p, _, rfl, b6, by omega, by omega, fun y2 H7 y20 y21 sb7 b7 => ?_⟩
    have hmx : 0 ≤ (if y2 > y1 then y2 else y1) ∧ (if y2 > y1 then y2 else y1) ≤ m := by split <;> omega
    refine ⟨_, _, rfl, p, _, rfl, b7, hmx.1, by omega, fun nq ss H8 sb8 b8 nn hn hlen hnd hnm => ?_⟩
    have nne : nq ≠ p := b7.ne nn
    have hrp7 : H7 rp = some (.lst []) := sb7 _ _ (sb6 _ _ (upd_at e5) rne) rne
    have nnr : nq ≠ rp := fun q => by rw [q, hrp7] at nn; cases nn
    refine ⟨nq, rfl, ⟨_, SqL.of hn⟩, for_list (K := K) (a := nq) (xs := ss.map V.str) (fun i σ Hi => ∃ (L : Rws) (v5 v6 v7 v8 v9 : Option V), σ = [some (.ref p), some (.int m), some (.int tu), some (.int lo), some (.ref rp), v5, v6, v7, v8, v9] ∧ LrC p nq rp ss L H Hi ∧ (∀ r ∈ L, H r.1 = none) ∧ L.map (·.2.n) = ss.take i ∧ ∀ r ∈ L, RowOk r.2)
      ⟨[], _, _, _, _, _, rfl, ⟨((sbA.trans s5.b).trans sb6).trans (sb7.trans sb8), b8, hn, sb8 _ _ hrp7 rne, fun r h => by cases h⟩, fun r h => (by cases h), rfl, fun r h => by cases h⟩ (fun i σ Hi _ ⟨L, _, _, _, _, _, _, c, _⟩ => SqL.of c.hn) ?_ ?_⟩
    · rintro i x σ Hi hx ⟨L, v5, v6, v7, v8, v9, rfl, c, hfr, hns, hok⟩
      obtain ⟨nm, hnmi, rfl⟩ : ∃ nm, ss[i]? = some nm ∧ x = V.str nm := by
        rw [List.getElem?_map] at hx
        cases q : ss[i]? with
        | none => rw [q] at hx; cases hx
        | some nm => rw [q] at hx; exact ⟨nm, rfl, (Option.some.inj hx).symm⟩
      have hin : i < ss.length := (List.getElem?_eq_some_iff.mp hnmi).1
      refine ⟨_, rfl, _, rfl, p, tu, rfl, c.bx, by omega, by omega, fun fi J1 fi0 fi1 tb1 bb1 => ?_⟩
      have c := c.tk tb1 bb1 nne rne
      refine ⟨_, rfl, _, rfl, p, 12, rfl, c.bx, by decide, by decide, fun w1 J2 w10 w11 tb2 bb2 => ?_⟩
      have c := c.tk tb2 bb2 nne rne
      refine ⟨_, rfl, _, rfl, p, tu, rfl, c.bx, by omega, by omega, fun w2 J3 w20 w21 tb3 bb3 => ?_⟩
      have c := c.tk tb3 bb3 nne rne
      refine ⟨(by show 3 ≤ sizeLine; decide), fun a3 n3 => ?_⟩
      have a3p := c.bx.ne n3
      generalize f3 : upd J3 a3 _ = J4
      have c := c.nw (upd_sm f3 n3)
      refine ⟨_, rfl, p, 3, rfl, c.bx, by decide, by decide, fun w3 J5 w30 w31 tb5 bb5 => ?_⟩
      obtain ⟨v, hat3, ad, rfl, ad0⟩ := pick (P := fun v => ∃ t, v = V.int t ∧ 0 ≤ t) (n := 3) (upd_at f3) rfl w30 w31
        (all_cons ⟨_, rfl, w10⟩ (all_cons ⟨_, rfl, w20⟩ (all_cons ⟨_, rfl, by decide⟩ all_nil)))
      refine ⟨a3, _, _, _, rfl, rfl, SqL.of (tb5 _ _ (upd_at f3) a3p), hat3, _, _, rfl, rfl, _, _, rfl, ?_⟩
      have c := c.tk tb5 bb5 nne rne
      generalize hla : (if fi + ad < 199 then fi + ad else 199) = la
      have la0 : fi ≤ la ∧ la ≤ 199 := by rw [← hla]; split <;> omega
      refine ⟨_, rfl, p, 10, rfl, c.bx, by decide, by decide, fun w4 J6 w40 w41 tb6 bb6 => ?_⟩
      have c := c.tk tb6 bb6 nne rne
      refine ⟨rfl, _, rfl, ?_⟩
      refine ite2 (fun _ => ?_) (fun _ => ?_)
      · refine ⟨_, rfl, _, _, rfl, rfl, ?_⟩
        refine ⟨_, rfl, _, rfl, p, lo, rfl, c.bx, by omega, by omega, fun ln J7 ln0 ln1 tb7 bb7 => ⟨_, _, rfl, rfl, ?_⟩⟩
        have c := c.tk tb7 bb7 nne rne
        refine ⟨_, rfl, _, rfl, _, rfl, _, rfl, _, _, rfl, rfl, p, _, rfl, c.bx, by omega, by omega, fun w5 J8 w50 w51 tb8 bb8 => ?_⟩
        have c := c.tk tb8 bb8 nne rne
        refine ⟨(by show 4 ≤ sizeLine; decide), fun a4 n4 => ?_⟩
        have a4p := c.bx.ne n4
        generalize f4 : upd J8 a4 _ = J9
        have c := c.nw (upd_sm f4 n4)
        refine ⟨_, rfl, p, 4, rfl, c.bx, by decide, by decide, fun w6 J10 w60 w61 tb10 bb10 => ?_⟩
        obtain ⟨v, hat4, le, rfl, le0, le1⟩ := pick (P := fun v => ∃ t, v = V.int t ∧ 0 ≤ t ∧ t ≤ 1 + ln) (n := 4) (upd_at f4) rfl w60 w61
          (all_cons ⟨_, rfl, by omega, by omega⟩ (all_cons ⟨_, rfl, by omega, by omega⟩ (all_cons ⟨_, rfl, by omega, by omega⟩ (all_cons ⟨_, rfl, by omega, by omega⟩ all_nil))))
        refine ⟨a4, _, _, _, rfl, rfl, SqL.of (tb10 _ _ (upd_at f4) a4p), hat4, ?_⟩
        have c := c.tk tb10 bb10 nne rne
        refine ⟨_, rfl, .inl ⟨rfl, _, SqL.of c.hr⟩, _, rfl, _, rfl, _, rfl, _, rfl, _, rfl, (by show 5 ≤ sizeLine; decide), fun a5 n5 => ?_⟩
        have a5p := c.bx.ne n5
        have hl : L.length = i := by
          have := congrArg List.length hns
          rw [List.length_map, List.length_take] at this
          omega
        generalize f5 : upd J10 a5 _ = J11
        have s11 := upd_sm f5 n5
        have a5f : H a5 = none := c.sb.free n5 a5p
        have c := c.nw s11
        have a5r : a5 ≠ rp := fun q => by
          have h1 := upd_at f5
          rw [q, c.hr] at h1
          cases h1
        refine ⟨rp, _, _, rfl, rfl, c.hr, ?_, ?_⟩
        · unfold refs
          rw [List.length_map]
          exact small1000 (by omega)
        refine ⟨L ++ [(a5, ⟨nm, (la + 1), la, 1 + ln, le⟩)], _, _, _, _, _, rfl, ⟨fun b o e nb => ?_, c.bx.upd rne, ?_, ?_, ?_⟩, fun r hr => ?_, ?_, fun r hr => ?_⟩
        · rw [upd_ne (ne_of_none e hr0)]
          exact c.sb _ _ e nb
        · rw [upd_ne nnr]
          exact c.hn
        · rw [upd_same]
          simp [refs]
        · have tl2 : TL (upd J11 rp (.lst (refs L ++ [V.ref a5]))) L := c.tl.sameB sameB_upd c.hr
          refine tl2.app ?_
          show upd J11 rp _ a5 = _
          rw [upd_ne a5r]
          exact upd_at f5
        · rcases List.mem_append.mp hr with h | h
          · exact hfr r h
          · rw [List.mem_singleton.mp h]
            exact a5f
        · rw [List.map_append, hns, List.take_add_one, hnmi]
          rfl
        · rcases List.mem_append.mp hr with h | h
          · exact hok r h
          · rw [List.mem_singleton.mp h]
            exact ⟨hnm nm (List.mem_of_getElem? hnmi), by show 0 ≤ (la + 1); omega, by show (la + 1) ≤ 200; omega, by show 0 ≤ la; omega, by show (la + 1) - 1 ≤ la; omega, by show la ≤ 199; omega, by show 1 ≤ 1 + ln; omega, by show 1 + ln ≤ 12; omega, le0, le1⟩
      ·
        refine ⟨_, rfl, _, rfl, p, lo, rfl, c.bx, by omega, by omega, fun ln J7 ln0 ln1 tb7 bb7 => ⟨_, _, rfl, rfl, ?_⟩⟩
        have c := c.tk tb7 bb7 nne rne
        refine ⟨_, rfl, _, rfl, _, rfl, _, rfl, _, _, rfl, rfl, p, _, rfl, c.bx, by omega, by omega, fun w5 J8 w50 w51 tb8 bb8 => ?_⟩
        have c := c.tk tb8 bb8 nne rne
        refine ⟨(by show 4 ≤ sizeLine; decide), fun a4 n4 => ?_⟩
        have a4p := c.bx.ne n4
        generalize f4 : upd J8 a4 _ = J9
        have c := c.nw (upd_sm f4 n4)
        refine ⟨_, rfl, p, 4, rfl, c.bx, by decide, by decide, fun w6 J10 w60 w61 tb10 bb10 => ?_⟩
        obtain ⟨v, hat4, le, rfl, le0, le1⟩ := pick (P := fun v => ∃ t, v = V.int t ∧ 0 ≤ t ∧ t ≤ 1 + ln) (n := 4) (upd_at f4) rfl w60 w61
          (all_cons ⟨_, rfl, by omega, by omega⟩ (all_cons ⟨_, rfl, by omega, by omega⟩ (all_cons ⟨_, rfl, by omega, by omega⟩ (all_cons ⟨_, rfl, by omega, by omega⟩ all_nil))))
        refine ⟨a4, _, _, _, rfl, rfl, SqL.of (tb10 _ _ (upd_at f4) a4p), hat4, ?_⟩
        have c := c.tk tb10 bb10 nne rne
        refine ⟨_, rfl, .inl ⟨rfl, _, SqL.of c.hr⟩, _, rfl, _, rfl, _, rfl, _, rfl, _, rfl, (by show 5 ≤ sizeLine; decide), fun a5 n5 => ?_⟩
        have a5p := c.bx.ne n5
        have hl : L.length = i := by
          have := congrArg List.length hns
          rw [List.length_map, List.length_take] at this
          omega
        generalize f5 : upd J10 a5 _ = J11
        have s11 := upd_sm f5 n5
        have a5f : H a5 = none := c.sb.free n5 a5p
        have c := c.nw s11
        have a5r : a5 ≠ rp := fun q => by
          have h1 := upd_at f5
          rw [q, c.hr] at h1
          cases h1
        refine ⟨rp, _, _, rfl, rfl, c.hr, ?_, ?_⟩
        · unfold refs
          rw [List.length_map]
          exact small1000 (by omega)
        refine ⟨L ++ [(a5, ⟨nm, fi, la, 1 + ln, le⟩)], _, _, _, _, _, rfl, ⟨fun b o e nb => ?_, c.bx.upd rne, ?_, ?_, ?_⟩, fun r hr => ?_, ?_, fun r hr => ?_⟩
        · rw [upd_ne (ne_of_none e hr0)]
          exact c.sb _ _ e nb
        · rw [upd_ne nnr]
          exact c.hn
        · rw [upd_same]
          simp [refs]
        · have tl2 : TL (upd J11 rp (.lst (refs L ++ [V.ref a5]))) L := c.tl.sameB sameB_upd c.hr
          refine tl2.app ?_
          show upd J11 rp _ a5 = _
          rw [upd_ne a5r]
          exact upd_at f5
        · rcases List.mem_append.mp hr with h | h
          · exact hfr r h
          · rw [List.mem_singleton.mp h]
            exact a5f
        · rw [List.map_append, hns, List.take_add_one, hnmi]
          rfl
        · rcases List.mem_append.mp hr with h | h
          · exact hok r h
          · rw [List.mem_singleton.mp h]
            exact ⟨hnm nm (List.mem_of_getElem? hnmi), by show 0 ≤ fi; omega, by show fi ≤ 200; omega, by show 0 ≤ la; omega, by show fi - 1 ≤ la; omega, by show la ≤ 199; omega, by show 1 ≤ 1 + ln; omega, by show 1 + ln ≤ 12; omega, le0, le1⟩
    · rintro σ Hi ⟨L, v5, v6, v7, v8, v9, rfl, c, hfr, hns, hok⟩
      rw [List.length_map, List.take_length] at hns
      have hl2 : L.length = ss.length := by rw [← hns, List.length_map]
      refine ⟨_, rfl, k rp L Hi c.sb c.bx hr0 c.hr c.tl hfr ⟨fun r hr => ?_, ?_, ?_⟩ (by omega)⟩
      · obtain ⟨q, hq, rfl⟩ := List.mem_map.mp hr
        exact hok q hq
      · rw [List.map_map]
        show (L.map (·.2.n)).Nodup
        rw [hns]
        exact hnd
      · rw [List.length_map]
        omega
end

end K05

set_option Elab.async false
set_option linter.all false
set_option maxRecDepth 100000
set_option maxHeartbeats 4000000
namespace K05
open PySem L2
/-! ### drawn things -/
def sp_thing : Sp := fun vs H Q _ => ∃ p, vs = [.ref p] ∧ Bx H p ∧ ∀ x H', SameB p H H' → Bx H' p → Dv (fun a => H a = none) H' [4, 4] x → Q x H'
section
variable {P : Program} {w : World} {K : PySem.W.Frag} {mg : Str → Option Value} {base : Heap} {D : Ad}
abbrev s__law_thing : Stmt := top 27
theorem sc__law_thing : FnScope ["_law_box_here", "_law_some"] ["_law_box_here"] (defScope s__law_thing) := ⟨rfl, rfl, rfl, by decide +kernel, rfl, by decide +kernel, by decide +kernel⟩
theorem ok__law_thing {f : Addr} {fd : FuncData} (F : Fun K "_law_thing" "_law_thing" s__law_thing f fd) (T : Txt K mg D) (c__law_take : CalF P w K mg base 1 "_law_take" ["_law_box_here", "_law_many"] (sp_take)) : FnOk P w K mg base CX0 2 f fd ["_law_box_here"] (sp_thing) := by
  refine F.ok sc__law_thing (fun vs H Q E h => ?_) (fun cdv A outer s H vs Q E hr h => ?_)
  · obtain ⟨p, rfl, hb, k⟩ := h
    rfl
  · obtain ⟨p, rfl, hb, k⟩ := h
    refine ⟨_, (@pss_cons _ _ _ _ _ (@ps_set _ _ 1 _ _ _ _ sc__law_thing.nd rfl (by first | exact Or.inl rfl | exact Or.inr rfl) (@pe_lst _ _ _ _ (@pa_c _ _ _ _ _ (@pe_non _ _ _) (@pa_c _ _ _ _ _ (@pe_bl _ _ _ _) (@pa_c _ _ _ _ _ (@pe_bl _ _ _ _) (@pa_c _ _ _ _ _ (@pe_int _ _ _ _) (@pa_c _ _ _ _ _ (@pe_int _ _ _ _) (@pa_c _ _ _ _ _ (@pe_op _ _ _ _ _ _ _ _ op_sub (@pe_int _ _ _ _) (@pe_int _ _ _ _)) (@pa_c _ _ _ _ _ (@pe_int _ _ _ _) (@pa_c _ _ _ _ _ (@pe_int _ _ _ _) (@pa_c _ _ _ _ _ (@pe_op _ _ _ _ _ _ _ _ op_pow (@pe_int _ _ _ _) (@pe_int _ _ _ _)) (@pa_c _ _ _ _ _ (@pe_op _ _ _ _ _ _ _ _ op_sub (@pe_int _ _ _ _) (@pe_op _ _ _ _ _ _ _ _ op_pow (@pe_int _ _ _ _) (@pe_int _ _ _ _))) (@pa_c _ _ _ _ _ (@pe_str _ _ _ _) (@pa_c _ _ _ _ _ (@pe_str _ _ _ _) (@pa_c _ _ _ _ _ (@pe_str _ _ _ _) (@pa_c _ _ _ _ _ (@pe_str _ _ _ _) (@pa_c _ _ _ _ _ (@pe_str _ _ _ _) (@pa_c _ _ _ _ _ (@pe_str _ _ _ _) (@pa_c _ _ _ _ _ (@pe_str _ _ _ _) (@pa_nil _) (by rfl)) (by rfl)) (by rfl)) (by rfl)) (by rfl)) (by rfl)) (by rfl)) (by rfl)) (by rfl)) (by rfl)) (by rfl)) (by rfl)) (by rfl)) (by rfl)) (by rfl)) (by rfl)) (by rfl))) (by rfl) (by first | exact .inl rfl | exact .inr rfl | assumption)) 
      (@pss_cons _ _ _ _ _ (@ps_set _ _ 1 _ _ _ _ sc__law_thing.nd rfl (by first | exact Or.inl rfl | exact Or.inr rfl) (@pe_op _ _ _ _ _ _ _ _ op_cat (@pv _ 1 _ _ (by rfl) (by first | exact Or.inl rfl | exact Or.inr (Or.inl rfl) | exact Or.inr (Or.inr rfl)) (by decide) (by decide)) (@pe_lst _ _ _ _ (@pa_c _ _ _ _ _ (@pe_str _ _ _ _) (@pa_c _ _ _ _ _ (@pe_str _ _ _ _) (@pa_c _ _ _ _ _ (@pe_str _ _ _ _) (@pa_c _ _ _ _ _ (@pe_str _ _ _ _) (@pa_c _ _ _ _ _ (@pe_str _ _ _ _) (@pa_c _ _ _ _ _ (@pe_str _ _ _ _) (@pa_c _ _ _ _ _ (@pe_str _ _ _ _) (@pa_c _ _ _ _ _ (@pe_str _ _ _ _) (@pa_c _ _ _ _ _ (@pe_str _ _ _ _) (@pa_c _ _ _ _ _ (@pe_str _ _ _ _) (@pa_c _ _ _ _ _ (@pe_str _ _ _ _) (@pa_c _ _ _ _ _ (@pe_str _ _ _ _) (@pa_c _ _ _ _ _ (@pe_str _ _ _ _) (@pa_nil _) (by rfl)) (by rfl)) (by rfl)) (by rfl)) (by rfl)) (by rfl)) (by rfl)) (by rfl)) (by rfl)) (by rfl)) (by rfl)) (by rfl)) (by rfl)))) (by rfl) (by first | exact .inl rfl | exact .inr rfl | assumption)) 
      (@pss_cons _ _ _ _ _ (@ps_set _ _ 1 _ _ _ _ sc__law_thing.nd rfl (by first | exact Or.inl rfl | exact Or.inr rfl) (@pe_op _ _ _ _ _ _ _ _ op_cat (@pv _ 1 _ _ (by rfl) (by first | exact Or.inl rfl | exact Or.inr (Or.inl rfl) | exact Or.inr (Or.inr rfl)) (by decide) (by decide)) (@pe_lst _ _ _ _ (@pa_c _ _ _ _ _ (@pe_lst _ _ _ _ (@pa_nil _)) (@pa_c _ _ _ _ _ (@pe_tup _ _ _ _ _ (@pa_nil _)) (@pa_c _ _ _ _ _ (@pe_dnewK _ _) (@pa_c _ _ _ _ _ (@pe_lst _ _ _ _ (@pa_c _ _ _ _ _ (@pe_int _ _ _ _) (@pa_nil _) (by rfl))) (@pa_c _ _ _ _ _ (@pe_tup _ _ _ _ _ (@pa_c _ _ _ _ _ (@pe_int _ _ _ _) (@pa_nil _) (by rfl))) (@pa_c _ _ _ _ _ (@pe_tup _ _ _ _ _ (@pa_c _ _ _ _ _ (@pe_str _ _ _ _) (@pa_c _ _ _ _ _ (@pe_int _ _ _ _) (@pa_c _ _ _ _ _ (@pe_int _ _ _ _) (@pa_c _ _ _ _ _ (@pe_int _ _ _ _) (@pa_nil _) (by rfl)) (by rfl)) (by rfl)) (by rfl))) (@pa_c _ _ _ _ _ (@pe_disp _ _ _ _ _ (@pps_cons _ _ _ _ _ _ _ _ _ (@pe_str _ _ _ _) (@pe_int _ _ _ _) (@pps_nil _ _)) (by rfl) (by rfl) (fun z => by cases z) (by decide)) (@pa_c _ _ _ _ _ (@pe_lst _ _ _ _ (@pa_c _ _ _ _ _ (@pe_lst _ _ _ _ (@pa_c _ _ _ _ _ (@pe_str _ _ _ _) (@pa_c _ _ _ _ _ (@pe_int _ _ _ _) (@pa_c _ _ _ _ _ (@pe_int _ _ _ _) (@pa_c _ _ _ _ _ (@pe_int _ _ _ _) (@pa_nil _) (by rfl)) (by rfl)) (by rfl)) (by rfl))) (@pa_nil _) (by rfl))) (@pa_c _ _ _ _ _ (@pe_str _ _ _ _) (@pa_c _ _ _ _ _ (@pe_str _ _ _ _) (@pa_nil _) (by rfl)) (by rfl)) (by rfl)) (by rfl)) (by rfl)) (by rfl)) (by rfl)) (by rfl)) (by rfl)) (by rfl)))) (by rfl) (by first | exact .inl rfl | exact .inr rfl | assumption)) 
      (@pss_one _ _ _ (@ps_ret _ _ _ _ (@pe_ix _ _ _ _ _ _ _ (ix_listK (K := K) rfl) (@pv _ 1 _ _ (by rfl) (by first | exact Or.inl rfl | exact Or.inr (Or.inl rfl) | exact Or.inr (Or.inr rfl)) (by decide) (by decide)) (@pe_fun _ _ _ _ _ _ _ _ _ _ _ c__law_take hr (@pa_c _ _ _ _ _ (@pv _ 0 _ _ (by rfl) (by first | exact Or.inl rfl | exact Or.inr (Or.inl rfl) | exact Or.inr (Or.inr rfl)) (by decide) (by decide)) (@pa_c _ _ _ _ _ (@pe_int _ _ _ _) (@pa_nil _) (by rfl)) (by rfl)) (by rfl) (by decide) (by decide) (by rfl) (by rfl)) (fun _ _ => rfl))))))), ?_⟩
    refine ⟨0, 1, rfl, rfl, 10, 29, rfl, rfl, ⟨by decide, by decide, by decide⟩, ?_⟩
    refine ⟨10, 29, rfl, rfl, ⟨by decide, by decide, by decide⟩, ?_⟩
    refine ⟨0, _, rfl, rfl, ?_⟩
    have hbig : ((10 : Int) ^ (29 : Int).toNat).natAbs < 10 ^ 40 := by decide
    generalize (10 : Int) ^ (29 : Int).toNat = big at hbig ⊢
    have hbig2 : (0 - big).natAbs < 10 ^ 40 := by omega
    refine ⟨by show 17 ≤ sizeLine; decide, fun p1 n1 => ?_⟩
    generalize e1 : upd H p1 _ = H1
    have s1 := upd_sm e1 n1
    refine ⟨_, rfl, (by show 13 ≤ sizeLine; decide), fun p2 n2 => ?_⟩
    generalize e2 : upd H1 p2 _ = H2
    have s2 := upd_sm e2 n2
    refine ⟨p1, p2, _, _, rfl, rfl, s2 _ _ (upd_at e1), upd_at e2, (by show 17 + 13 ≤ sizeLine; decide), fun p3 n3 => ?_⟩
    generalize e3 : upd H2 p3 _ = H3
    have s3 := upd_sm e3 n3
    have b3 : Bx H3 p := ((hb.same s1).same s2).same s3
    refine ⟨_, rfl, (by show 0 ≤ sizeLine; decide), fun q1 m1 => ?_⟩
    generalize f1 : upd H3 q1 _ = I1
    have t1 := upd_sm f1 m1
    have b1 := b3.same t1
    refine ⟨(by show 0 ≤ sizeLine; decide), fun q2 m2 => ?_⟩
    generalize f2 : upd I1 q2 _ = I2
    have t2 := upd_sm f2 m2
    have b2 := b1.same t2
    intro q3 m3
    generalize f3 : upd I2 q3 _ = I3
    have t3 := upd_sm f3 m3
    have b4 := b2.same t3
    refine ⟨(by show 1 ≤ sizeLine; decide), fun q4 m4 => ?_⟩
    generalize f4 : upd I3 q4 _ = I4
    have t4 := upd_sm f4 m4
    have b5 := b4.same t4
    refine ⟨(by show 1 ≤ sizeLine; decide), fun q5 m5 => ?_⟩
    generalize f5 : upd I4 q5 _ = I5
    have t5 := upd_sm f5 m5
    have b6 := b5.same t5
    refine ⟨(by show 4 ≤ sizeLine; decide), fun q6 m6 => ?_⟩
    generalize f6 : upd I5 q6 _ = I6
    have t6 := upd_sm f6 m6
    have b7 := b6.same t6
    intro q7 m7
    refine ⟨upd_same, [(Sum.inr "a", .int 1)], rfl, (by decide), ?_⟩
    generalize f7 : upd (upd I6 q7 _) q7 _ = I7
    have t7 := upd_sm2 f7 m7
    have b8 := b7.same t7
    refine ⟨(by show 4 ≤ sizeLine; decide), fun q8 m8 => ?_⟩
    generalize f8 : upd I7 q8 _ = I8
    have t8 := upd_sm f8 m8
    have b9 := b8.same t8
    refine ⟨(by show 1 ≤ sizeLine; decide), fun q9 m9 => ?_⟩
    generalize f9 : upd I8 q9 _ = I9
    have t9 := upd_sm f9 m9
    have b10 := b9.same t9
    refine ⟨(by show 10 ≤ sizeLine; decide), fun p4 n4 => ?_⟩
    generalize e4 : upd I9 p4 _ = H4
    have s4 := upd_sm e4 n4
    have u9 : Same H3 I9 := (((((((t1.trans t2).trans t3).trans t4).trans t5).trans t6).trans t7).trans t8).trans t9
    refine ⟨p3, p4, _, _, rfl, rfl, s4 _ _ (u9 _ _ (upd_at e3)), upd_at e4, (by show 17 + 13 + 10 ≤ sizeLine; decide), fun p5 n5 => ?_⟩
    generalize e5 : upd H4 p5 _ = H5
    have s5 := upd_sm e5 n5
    have b11 := (b10.same s4).same s5
    have w9 : Same I9 H5 := s4.trans s5
    have w7 : Same I7 H5 := (t8.trans t9).trans w9
    have w6 : Same I6 H5 := t7.trans w7
    have w5 : Same I5 H5 := t6.trans w6
    have w4 : Same I4 H5 := t5.trans w5
    have w3 : Same I3 H5 := t4.trans w4
    have w2 : Same I2 H5 := t3.trans w3
    have w1 : Same I1 H5 := t2.trans w2
    have sH : Same H H5 := ((((s1.trans s2).trans s3).trans t1).trans w1)
    have fr : ∀ {q I}, Same H I → I q = none → H q = none := fun s n => s.none n
    have u0 : Same H H3 := (s1.trans s2).trans s3
    have v1 := u0.trans t1
    have v2 := v1.trans t2
    have v3 := v2.trans t3
    have v4 := v3.trans t4
    have v5 := v4.trans t5
    have v6 := v5.trans t6
    have v7 := v6.trans t7
    have v8 := v7.trans t8
    have w8 : Same I8 H5 := t9.trans w9
    have a1 : Dv (fun a => H a = none) H5 [4, 4] (.ref q1) := .lst (u0.none m1) (w1 _ _ (upd_at f1)) (by decide) all_nil
    have a2 : Dv (fun a => H a = none) H5 [4, 4] (.ref q2) := .tup (v1.none m2) (w2 _ _ (upd_at f2)) (by decide) all_nil
    have a3 : Dv (fun a => H a = none) H5 [4, 4] (.ref q3) := .dct (v2.none m3) (w3 _ _ (upd_at f3)) (by decide) (fun kv h => by cases h)
    have a4 : Dv (fun a => H a = none) H5 [4, 4] (.ref q4) := .lst (v3.none m4) (w4 _ _ (upd_at f4)) (by decide) (all_cons (.int (by decide)) all_nil)
    have a5 : Dv (fun a => H a = none) H5 [4, 4] (.ref q5) := .tup (v4.none m5) (w5 _ _ (upd_at f5)) (by decide) (all_cons (.int (by decide)) all_nil)
    have a6 : Dv (fun a => H a = none) H5 [4, 4] (.ref q6) := .tup (v5.none m6) (w6 _ _ (upd_at f6)) (by decide) (all_cons (.str (by decide +kernel)) (all_cons (.int (by decide)) (all_cons (.int (by decide)) (all_cons (.int (by decide)) all_nil))))
    have a7 : Dv (fun a => H a = none) H5 [4, 4] (.ref q7) := .dct (kvs := [(Sum.inr "a", .int 1)]) (v6.none m7) (w7 _ _ (upd_at f7)) (by decide) (all_cons ⟨⟨by decide +kernel, by decide +kernel⟩, by show (1 : Int).natAbs < 10 ^ 40; decide⟩ all_nil)
    have a8 : Dv (fun a => H a = none) H5 [4] (.ref q8) := .lst (v7.none m8) (w8 _ _ (upd_at f8)) (by decide) (all_cons (.str (by decide +kernel)) (all_cons (.int (by decide)) (all_cons (.int (by decide)) (all_cons (.int (by decide)) all_nil))))
    have a9 : Dv (fun a => H a = none) H5 [4, 4] (.ref q9) := .lst (v8.none m9) (w9 _ _ (upd_at f9)) (by simp) (all_cons a8 all_nil)
    have g5 := upd_at e5
    have np5 : p5 ≠ p := (b10.same s4).ne n5
    refine ⟨_, rfl, _, rfl, p, 40, rfl, b11, (by decide), (by decide), fun z H' z0 z1 sb bx => ?_⟩
    obtain ⟨v, hat, hv⟩ := pick (P := Dv (fun a => H a = none) H5 [4, 4]) (n := 40) g5 rfl z0 z1 (by
      refine all_app (all_app ?_ ?_) ?_
      all_goals repeat (first | exact all_nil | refine all_cons (by first | exact Dv.non | exact Dv.bl _ | exact Dv.int hbig | exact Dv.int hbig2 | exact Dv.int (by decide) | assumption | exact Dv.str (by decide +kernel)) ?_))
    refine ⟨p5, _, z, v, rfl, rfl, SqL.of (sb _ _ g5 np5), hat, k v H' (sH.b.trans sb) bx (hv.mono (fun a o n e => ⟨n, sb _ _ e fun q => ?_⟩) .refl)⟩
    obtain ⟨_, _, _, hp⟩ := hb
    rw [q, hp] at n
    cases n
end

end K05

set_option Elab.async false
set_option linter.all false
set_option maxRecDepth 100000
set_option maxHeartbeats 4000000
namespace K05
open PySem L2
/-! ### the law's own look at rows -/
def frm (H : Hp) (x : V) : Bool := match itemsOf H x with
  | some xs => decide (xs.length = 4) || decide (xs.length = 5)
  | none => false
def nm1 : V → Bool
  | .str z => within (.int z.length) 1 8 && (match z.cps.toList with | c :: _ => decide (c ∈ LET.cps.toList) | [] => false)
  | _ => false
theorem isName_1 (z : Str) : isName (.str z) = (nm1 (.str z) && among z (LET ++ FIG)) := by
  show isNm z = ((within (.int z.length) 1 8 && (match z.cps.toList with | c :: _ => decide (c ∈ LET.cps.toList) | [] => false)) && among z (LET ++ FIG))
  unfold isNm
  rw [Bool.and_assoc]
  first | done | (cases z.cps.toList <;> rfl)
theorem isName_0 {x : V} (h : nm1 x = false) : isName x = false := by
  cases x with
  | str z => rw [isName_1, h]; rfl
  | _ => rfl
def sp_lfault (K : PySem.W.Frag) : Sp := fun vs H Q _ => ∃ q ss x T, vs = [.ref q, x] ∧ H q = some (.lst (ss.map V.str)) ∧ TyOf K H x (.type T) ∧ (∀ xs, itemsOf H x = some xs → ∀ y ∈ xs, Itm K H y) ∧ ∀ H', Same H H' → Q (.str ((faultV H ss x).getD "")) H'
def sp_lflt (K : PySem.W.Frag) : Sp := fun vs H Q _ => ∃ x, vs = [x] ∧ SeqIn K H x ∧ (∀ at_ why, fltOf H x = some (at_, why) → ∀ t H', Same H H' → H t = none → H' t = some (.tup [at_, .str why]) → Q (.ref t) H') ∧ (fltOf H x = none → ∀ H', Same H H' → Q .non H')
theorem fault_words {H : Hp} {ss : List Str} {x : V} {z : Str} (h : faultV H ss x = some z) : (z == ("" : Str)) = false := by
  have key : ∀ {a b c d : V} {z : Str}, fault4 ss a b c d = some z → (z == ("" : Str)) = false := by
    intro a b c d z h
    unfold fault4 at h
    repeat (split at h; · cases h; decide +kernel)
    cases h
  unfold faultV at h
  split at h
  · rename_i xs _
    unfold faultL at h
    split at h
    · exact key h
    · split at h
      · rename_i z' h'
        cases h
        exact key h'
      · split at h
        · cases h
          decide +kernel
        · cases h
    · cases h
      decide +kernel
  · cases h
    decide +kernel
theorem filt_nil {z : Str} : (z.cps.toList.filter fun c => !decide (c ∈ (LET ++ FIG).cps.toList)) = [] ↔ among z (LET ++ FIG) = true := by
  unfold among
  rw [List.filter_eq_nil_iff, List.all_eq_true]
  constructor
  · intro h c hc
    have := h c hc
    simpa using this
  · intro h c hc
    have := h c hc
    simpa using this
section
variable {P : Program} {w : World} {K : PySem.W.Frag} {mg : Str → Option Value} {base : Heap} {D : Ad}
abbrev s__law_whole : Stmt := top 28
theorem sc__law_whole : FnScope ["_law_thing_here"] ["_law_thing_here"] (defScope s__law_whole) := ⟨rfl, rfl, rfl, by decide +kernel, rfl, by decide +kernel, by decide +kernel⟩
theorem ok__law_whole {f : Addr} {fd : FuncData} (F : Fun K "_law_whole" "_law_whole" s__law_whole f fd) (T : Txt K mg D)  : FnOk P w K mg base CX0 1 f fd ["_law_thing_here"] (sp_whole K) := by
  refine F.ok sc__law_whole (fun vs H Q E h => ?_) (fun cdv A outer s H vs Q E hr h => ?_)
  · obtain ⟨x, Ty, rfl, ht, k⟩ := h
    rfl
  · obtain ⟨x, Ty, rfl, ht, k⟩ := h
    refine ⟨_, (@pss_one _ _ _ (@ps_ret _ _ _ _ (@pe_and _ _ _ _ _ _ _ (@pe_callB _ _ _ _ _ _ _ _ _ (call_isinstK (K := K) rfl) (by rfl) T.b_isinstance (by decide +kernel) (@pa_c _ _ _ _ _ (@pv _ 0 _ _ (by rfl) (by first | exact Or.inl rfl | exact Or.inr (Or.inl rfl) | exact Or.inr (Or.inr rfl)) (by decide) (by decide)) (@pa_c _ _ _ _ _ (@pe_type _ _ "int" _ rfl T.b_int (by decide +kernel) (by decide) (by decide)) (@pa_nil _) (by rfl)) (by rfl)) (by decide) (by decide) (by rfl) (by rfl)) (@pe_one _ _ _ _ _ (@pe_not _ _ _ _ (@pe_callB _ _ _ _ _ _ _ _ _ (call_isinstK (K := K) rfl) (by rfl) T.b_isinstance (by decide +kernel) (@pa_c _ _ _ _ _ (@pv _ 0 _ _ (by rfl) (by first | exact Or.inl rfl | exact Or.inr (Or.inl rfl) | exact Or.inr (Or.inr rfl)) (by decide) (by decide)) (@pa_c _ _ _ _ _ (@pe_type _ _ "bool" _ rfl T.b_bool (by decide +kernel) (by decide) (by decide)) (@pa_nil _) (by rfl)) (by rfl)) (by decide) (by decide) (by rfl) (by rfl))))))), ?_⟩
    refine ⟨_, rfl, _, _, _, _, rfl, ht, kit_int ht, _, rfl, ?_⟩
    cases x <;> first | exact iteF k | exact iteT ⟨_, rfl, _, _, _, _, rfl, ht, kit_bool ht, _, rfl, k⟩
abbrev s__law_row_fault : Stmt := top 29
theorem sc__law_row_fault : FnScope ["_law_known", "_law_row", "_law_letters", "_law_sign"] ["_law_known", "_law_row"] (defScope s__law_row_fault) := ⟨rfl, rfl, rfl, by decide +kernel, rfl, by decide +kernel, by decide +kernel⟩
theorem ok__law_row_fault {f : Addr} {fd : FuncData} (F : Fun K "_law_row_fault" "_law_row_fault" s__law_row_fault f fd) (T : Txt K mg D) (c__law_whole : CalF P w K mg base 1 "_law_whole" ["_law_thing_here"] (sp_whole K)) : FnOk P w K mg base CX0 2 f fd ["_law_known", "_law_row"] (sp_lfault K) := by
  refine F.ok sc__law_row_fault (fun vs H Q E h => ?_) (fun cdv A outer s H vs Q E hr h => ?_)
  · obtain ⟨q, ss, x, Ty, rfl, hq, ht, hi, k⟩ := h
    rfl
  · obtain ⟨q, ss, x, Ty, rfl, hq, ht, hi, k⟩ := h
    refine ⟨_, (@pss_cons _ _ _ _ _ (@ps_if _ _ _ _ _ _ _ _ (@pt_cut _ _ _ (@PW.pt _ _ _ (@pw_or _ _ _ _ _ _ _ (@pt_not _ _ _ _ (@pt_val _ _ _ (@pe_callB _ _ _ _ _ _ _ _ _ (call_isinstK (K := K) rfl) (by rfl) T.b_isinstance (by decide +kernel) (@pa_c _ _ _ _ _ (@pv _ 1 _ _ (by rfl) (by first | exact Or.inl rfl | exact Or.inr (Or.inl rfl) | exact Or.inr (Or.inr rfl)) (by decide) (by decide)) (@pa_c _ _ _ _ _ (@pe_type _ _ "tuple" _ rfl T.b_tuple (by decide +kernel) (by decide) (by decide)) (@pa_nil _) (by rfl)) (by rfl)) (by decide) (by decide) (by rfl) (by rfl)) (by intro _; rfl))) (@pw_or1 _ _ _ _ (@pt_cmpR _ _ _ _ _ _ _ _ (op_notIn_seqK (K := K) rfl) (@pe_callB _ _ _ _ _ _ _ _ _ (call_lenK (K := K) rfl) (by rfl) T.b_len (by decide +kernel) (@pa_c _ _ _ _ _ (@pv _ 1 _ _ (by rfl) (by first | exact Or.inl rfl | exact Or.inr (Or.inl rfl) | exact Or.inr (Or.inr rfl)) (by decide) (by decide)) (@pa_nil _) (by rfl)) (by decide) (by decide) (by rfl) (by rfl)) (@pe_tup _ _ _ _ _ (@pa_c _ _ _ _ _ (@pe_int _ _ _ _) (@pa_c _ _ _ _ _ (@pe_int _ _ _ _) (@pa_nil _) (by rfl)) (by rfl))) (by rfl)))))) (@pss_one _ _ _ (@ps_ret _ _ _ _ (@pe_str _ _ _ _))) (@pss_nil _)) 
      (@pss_cons _ _ _ _ _ (@ps_set _ _ 2 _ _ _ _ sc__law_row_fault.nd rfl (by first | exact Or.inl rfl | exact Or.inr rfl) (@pe_str _ _ _ _) (by rfl) (by first | exact .inl rfl | exact .inr rfl | assumption)) 
      (@pss_cons _ _ _ _ _ (@ps_if _ _ _ _ _ _ _ _ (@pt_cut _ _ _ (@PW.pt _ _ _ (@pw_or _ _ _ _ _ _ _ (@pt_not _ _ _ _ (@pt_val _ _ _ (@pe_callB _ _ _ _ _ _ _ _ _ (call_isinstK (K := K) rfl) (by rfl) T.b_isinstance (by decide +kernel) (@pa_c _ _ _ _ _ (@pe_ix _ _ _ _ _ _ _ (ix_tupK (K := K) rfl) (@pv _ 1 _ _ (by rfl) (by first | exact Or.inl rfl | exact Or.inr (Or.inl rfl) | exact Or.inr (Or.inr rfl)) (by decide) (by decide)) (@pe_int _ _ _ _) (fun _ _ => rfl)) (@pa_c _ _ _ _ _ (@pe_type _ _ "str" _ rfl T.b_str (by decide +kernel) (by decide) (by decide)) (@pa_nil _) (by rfl)) (by rfl)) (by decide) (by decide) (by rfl) (by rfl)) (by intro _; rfl))) (@pw_or _ _ _ _ _ _ _ (@pt_not _ _ _ _ (@pt_chain _ _ _ _ _ _ _ _ _ _ _ _ op_le op_le (@pe_int _ _ _ _) (@pe_callB _ _ _ _ _ _ _ _ _ (call_lenK (K := K) rfl) (by rfl) T.b_len (by decide +kernel) (@pa_c _ _ _ _ _ (@pe_ix _ _ _ _ _ _ _ (ix_tupK (K := K) rfl) (@pv _ 1 _ _ (by rfl) (by first | exact Or.inl rfl | exact Or.inr (Or.inl rfl) | exact Or.inr (Or.inr rfl)) (by decide) (by decide)) (@pe_int _ _ _ _) (fun _ _ => rfl)) (@pa_nil _) (by rfl)) (by decide) (by decide) (by rfl) (by rfl)) (@pe_int _ _ _ _) (by with_unfolding_all rfl))) (@pw_or1 _ _ _ _ (@pt_cmpR _ _ _ _ _ _ _ _ op_notIn_sign (@pe_ix _ _ _ _ _ _ _ ix_str (@pe_ix _ _ _ _ _ _ _ (ix_tupK (K := K) rfl) (@pv _ 1 _ _ (by rfl) (by first | exact Or.inl rfl | exact Or.inr (Or.inl rfl) | exact Or.inr (Or.inr rfl)) (by decide) (by decide)) (@pe_int _ _ _ _) (fun _ _ => rfl)) (@pe_int _ _ _ _) (fun _ _ => rfl)) (@pv _ 2 _ _ (by rfl) (by first | exact Or.inl rfl | exact Or.inr (Or.inl rfl) | exact Or.inr (Or.inr rfl)) (by decide) (by decide)) (by rfl))))))) (@pss_one _ _ _ (@ps_ret _ _ _ _ (@pe_str _ _ _ _))) (@pss_nil _)) 
      (@pss_cons _ _ _ _ _ (@ps_if _ _ _ _ _ _ _ _ (@pt_cut _ _ _ (@pt_cmpR _ _ _ _ _ _ _ _ (op_neSK (K := K) 8 hr rfl) (@pe_lc _ _ _ _ _ _ [("_law_sign", 3)] _ _ (gName 3) _ _ (by rfl) sc__law_row_fault.nd (@pi_str _ _ _ _ (@pe_ix _ _ _ _ _ _ _ (ix_tupK (K := K) rfl) (@pv _ 1 _ _ (by rfl) (by first | exact Or.inl rfl | exact Or.inr (Or.inl rfl) | exact Or.inr (Or.inr rfl)) (by decide) (by decide)) (@pe_int _ _ _ _) (fun _ _ => rfl))) (blkOk_by (own := [("_law_sign", 3)]) (N := ["_law_known", "_law_row", "_law_letters", "_law_sign"]) (sc := defScope s__law_row_fault) (by decide +kernel)) (fun _ _ _ _ _ => (@pg_name _ _ 3 _ sc__law_row_fault.nd rfl (by first | exact Or.inl rfl | exact Or.inr rfl) (by first | exact .inl rfl | exact .inr rfl | assumption))) (fun _ _ _ _ _ => (@pts_one _ _ _ (@pt_cmpR _ _ _ _ _ _ _ _ op_notIn_sign (@pv _ 3 _ _ (by rfl) (by first | exact Or.inl rfl | exact Or.inr (Or.inl rfl) | exact Or.inr (Or.inr rfl)) (by decide) (by decide)) (@pe_op _ _ _ _ _ _ _ _ op_add_str (@pv _ 2 _ _ (by rfl) (by first | exact Or.inl rfl | exact Or.inr (Or.inl rfl) | exact Or.inr (Or.inr rfl)) (by decide) (by decide)) (@pe_str _ _ _ _)) (by rfl)))) (fun _ _ _ _ _ => (@pv _ 3 _ _ (by rfl) (by first | exact Or.inl rfl | exact Or.inr (Or.inl rfl) | exact Or.inr (Or.inr rfl)) (by decide) (by decide))) (by intro _; rfl)) (@pe_lst _ _ _ _ (@pa_nil _)) (nomark _))) (@pss_one _ _ _ (@ps_ret _ _ _ _ (@pe_str _ _ _ _))) (@pss_nil _)) 
      (@pss_cons _ _ _ _ _ (@ps_if _ _ _ _ _ _ _ _ (@pt_cmpR _ _ _ _ _ _ _ _ (op_inT (K := K) hr rfl) (@pe_ix _ _ _ _ _ _ _ (ix_tupK (K := K) rfl) (@pv _ 1 _ _ (by rfl) (by first | exact Or.inl rfl | exact Or.inr (Or.inl rfl) | exact Or.inr (Or.inr rfl)) (by decide) (by decide)) (@pe_int _ _ _ _) (fun _ _ => rfl)) (@pv _ 0 _ _ (by rfl) (by first | exact Or.inl rfl | exact Or.inr (Or.inl rfl) | exact Or.inr (Or.inr rfl)) (by decide) (by decide)) (by rfl)) (@pss_one _ _ _ (@ps_ret _ _ _ _ (@pe_str _ _ _ _))) (@pss_nil _)) 
      (@pss_cons _ _ _ _ _ (@ps_if _ _ _ _ _ _ _ _ (@pt_cut _ _ _ (@PW.pt _ _ _ (@pw_or _ _ _ _ _ _ _ (@pt_not _ _ _ _ (@pt_val _ _ _ (@pe_fun _ _ _ _ _ _ _ _ _ _ _ c__law_whole hr (@pa_c _ _ _ _ _ (@pe_ix _ _ _ _ _ _ _ (ix_tupK (K := K) rfl) (@pv _ 1 _ _ (by rfl) (by first | exact Or.inl rfl | exact Or.inr (Or.inl rfl) | exact Or.inr (Or.inr rfl)) (by decide) (by decide)) (@pe_int _ _ _ _) (fun _ _ => rfl)) (@pa_nil _) (by rfl)) (by rfl) (by decide) (by decide) (by rfl) (by rfl)) (by intro _; rfl))) (@pw_or1 _ _ _ _ (@pt_not _ _ _ _ (@pt_chain _ _ _ _ _ _ _ _ _ _ _ _ op_le op_le (@pe_int _ _ _ _) (@pe_ix _ _ _ _ _ _ _ (ix_tupK (K := K) rfl) (@pv _ 1 _ _ (by rfl) (by first | exact Or.inl rfl | exact Or.inr (Or.inl rfl) | exact Or.inr (Or.inr rfl)) (by decide) (by decide)) (@pe_int _ _ _ _) (fun _ _ => rfl)) (@pe_int _ _ _ _) (by with_unfolding_all rfl))))))) (@pss_one _ _ _ (@ps_ret _ _ _ _ (@pe_str _ _ _ _))) (@pss_nil _)) 
      (@pss_cons _ _ _ _ _ (@ps_if _ _ _ _ _ _ _ _ (@pt_cut _ _ _ (@PW.pt _ _ _ (@pw_or _ _ _ _ _ _ _ (@pt_not _ _ _ _ (@pt_val _ _ _ (@pe_fun _ _ _ _ _ _ _ _ _ _ _ c__law_whole hr (@pa_c _ _ _ _ _ (@pe_ix _ _ _ _ _ _ _ (ix_tupK (K := K) rfl) (@pv _ 1 _ _ (by rfl) (by first | exact Or.inl rfl | exact Or.inr (Or.inl rfl) | exact Or.inr (Or.inr rfl)) (by decide) (by decide)) (@pe_int _ _ _ _) (fun _ _ => rfl)) (@pa_nil _) (by rfl)) (by rfl) (by decide) (by decide) (by rfl) (by rfl)) (by intro _; rfl))) (@pw_or1 _ _ _ _ (@pt_not _ _ _ _ (@pt_chain _ _ _ _ _ _ _ _ _ _ _ _ op_le op_le (@pe_callB _ _ _ _ _ _ _ _ _ (call_max2 rfl) (by rfl) T.b_max (by decide +kernel) (@pa_c _ _ _ _ _ (@pe_int _ _ _ _) (@pa_c _ _ _ _ _ (@pe_op _ _ _ _ _ _ _ _ op_sub (@pe_ix _ _ _ _ _ _ _ (ix_tupK (K := K) rfl) (@pv _ 1 _ _ (by rfl) (by first | exact Or.inl rfl | exact Or.inr (Or.inl rfl) | exact Or.inr (Or.inr rfl)) (by decide) (by decide)) (@pe_int _ _ _ _) (fun _ _ => rfl)) (@pe_int _ _ _ _)) (@pa_nil _) (by rfl)) (by rfl)) (by decide) (by decide) (by rfl) (by rfl)) (@pe_ix _ _ _ _ _ _ _ (ix_tupK (K := K) rfl) (@pv _ 1 _ _ (by rfl) (by first | exact Or.inl rfl | exact Or.inr (Or.inl rfl) | exact Or.inr (Or.inr rfl)) (by decide) (by decide)) (@pe_int _ _ _ _) (fun _ _ => rfl)) (@pe_int _ _ _ _) (by with_unfolding_all rfl))))))) (@pss_one _ _ _ (@ps_ret _ _ _ _ (@pe_str _ _ _ _))) (@pss_nil _)) 
      (@pss_cons _ _ _ _ _ (@ps_if _ _ _ _ _ _ _ _ (@pt_cut _ _ _ (@PW.pt _ _ _ (@pw_or _ _ _ _ _ _ _ (@pt_not _ _ _ _ (@pt_val _ _ _ (@pe_fun _ _ _ _ _ _ _ _ _ _ _ c__law_whole hr (@pa_c _ _ _ _ _ (@pe_ix _ _ _ _ _ _ _ (ix_tupK (K := K) rfl) (@pv _ 1 _ _ (by rfl) (by first | exact Or.inl rfl | exact Or.inr (Or.inl rfl) | exact Or.inr (Or.inr rfl)) (by decide) (by decide)) (@pe_int _ _ _ _) (fun _ _ => rfl)) (@pa_nil _) (by rfl)) (by rfl) (by decide) (by decide) (by rfl) (by rfl)) (by intro _; rfl))) (@pw_or1 _ _ _ _ (@pt_not _ _ _ _ (@pt_chain _ _ _ _ _ _ _ _ _ _ _ _ op_le op_le (@pe_int _ _ _ _) (@pe_ix _ _ _ _ _ _ _ (ix_tupK (K := K) rfl) (@pv _ 1 _ _ (by rfl) (by first | exact Or.inl rfl | exact Or.inr (Or.inl rfl) | exact Or.inr (Or.inr rfl)) (by decide) (by decide)) (@pe_int _ _ _ _) (fun _ _ => rfl)) (@pe_int _ _ _ _) (by with_unfolding_all rfl))))))) (@pss_one _ _ _ (@ps_ret _ _ _ _ (@pe_str _ _ _ _))) (@pss_nil _)) 
      (@pss_cons _ _ _ _ _ (@ps_if _ _ _ _ _ _ _ _ (@PW.pt _ _ _ (@pw_and _ _ _ _ _ _ _ (@pt_cmpR _ _ _ _ _ _ _ _ op_eq (@pe_callB _ _ _ _ _ _ _ _ _ (call_lenK (K := K) rfl) (by rfl) T.b_len (by decide +kernel) (@pa_c _ _ _ _ _ (@pv _ 1 _ _ (by rfl) (by first | exact Or.inl rfl | exact Or.inr (Or.inl rfl) | exact Or.inr (Or.inr rfl)) (by decide) (by decide)) (@pa_nil _) (by rfl)) (by decide) (by decide) (by rfl) (by rfl)) (@pe_int _ _ _ _) (nomark _)) (@pw_and1 _ _ _ _ (@pt_cut _ _ _ (@PW.pt _ _ _ (@pw_or _ _ _ _ _ _ _ (@pt_not _ _ _ _ (@pt_val _ _ _ (@pe_fun _ _ _ _ _ _ _ _ _ _ _ c__law_whole hr (@pa_c _ _ _ _ _ (@pe_ix _ _ _ _ _ _ _ (ix_tupK (K := K) rfl) (@pv _ 1 _ _ (by rfl) (by first | exact Or.inl rfl | exact Or.inr (Or.inl rfl) | exact Or.inr (Or.inr rfl)) (by decide) (by decide)) (@pe_int _ _ _ _) (fun _ _ => rfl)) (@pa_nil _) (by rfl)) (by rfl) (by decide) (by decide) (by rfl) (by rfl)) (by intro _; rfl))) (@pw_or1 _ _ _ _ (@pt_not _ _ _ _ (@pt_chain _ _ _ _ _ _ _ _ _ _ _ _ op_le op_le (@pe_int _ _ _ _) (@pe_ix _ _ _ _ _ _ _ (ix_tupK (K := K) rfl) (@pv _ 1 _ _ (by rfl) (by first | exact Or.inl rfl | exact Or.inr (Or.inl rfl) | exact Or.inr (Or.inr rfl)) (by decide) (by decide)) (@pe_int _ _ _ _) (fun _ _ => rfl)) (@pe_ix _ _ _ _ _ _ _ (ix_tupK (K := K) rfl) (@pv _ 1 _ _ (by rfl) (by first | exact Or.inl rfl | exact Or.inr (Or.inl rfl) | exact Or.inr (Or.inr rfl)) (by decide) (by decide)) (@pe_int _ _ _ _) (fun _ _ => rfl)) (by with_unfolding_all rfl)))))))))) (@pss_one _ _ _ (@ps_ret _ _ _ _ (@pe_str _ _ _ _))) (@pss_nil _)) 
      (@pss_one _ _ _ (@ps_ret _ _ _ _ (@pe_str _ _ _ _)))))))))))), ?_⟩
    refine ⟨fun b H' => (b = !frm H x) ∧ Same H H', ?_, ?_⟩
    · refine ⟨_, rfl, _, _, _, _, rfl, ht, kit_tup ht, _, rfl, ?_⟩
      cases ei : itemsOf H x with
      | none => exact iteT ⟨by unfold frm; rw [ei]; rfl, Same.refl H⟩
      | some xs =>
        obtain ⟨a, rfl, ha⟩ := items_at ei
        refine iteF ?_
        refine ⟨_, rfl, _, _, rfl, .inr ⟨_, SqT.of ha, rfl⟩, ?_⟩
        refine ⟨(by show 2 ≤ sizeLine; decide), fun p1 n1 => ?_⟩
        generalize e1 : upd H p1 _ = H1
        have s1 := upd_sm e1 n1
        refine ⟨p1, _, rfl, .inr (SqT.of (upd_at e1)), rfl, rfl, _, rfl, ?_⟩
        rw [in45]
        exact ⟨by unfold frm; rw [ei], s1⟩
    rintro _ H1 ⟨rfl, s1⟩
    cases ef : frm H x with
    | false =>
      have e : faultV H ss x = some ("form" : Str) := by
        unfold frm at ef
        unfold faultV
        cases ei : itemsOf H x with
        | none => rfl
        | some xs =>
          rw [ei] at ef
          have h45 : ¬ (xs.length = 4 ∨ xs.length = 5) := fun h => by
            rcases h with h | h <;> (dsimp only at ef; rw [h] at ef; simp at ef)
          show faultL ss xs = _
          match xs, h45 with
          | [], _ => rfl
          | [_], _ => rfl
          | [_, _], _ => rfl
          | [_, _, _], _ => rfl
          | [_, _, _, _], h => exact absurd (.inl rfl) h
          | [_, _, _, _, _], h => exact absurd (.inr rfl) h
          | _ :: _ :: _ :: _ :: _ :: _ :: _, _ => rfl
      rw [e] at k
      exact iteT (k _ s1)
    | true =>
      refine iteF ?_
      obtain ⟨xs, ei, h45⟩ : ∃ xs, itemsOf H x = some xs ∧ (xs.length = 4 ∨ xs.length = 5) := by
        unfold frm at ef
        cases ei : itemsOf H x with
        | none => rw [ei] at ef; cases ef
        | some xs =>
          rw [ei] at ef
          exact ⟨xs, rfl, by simpa using ef⟩
      obtain ⟨a, rfl, ha⟩ := items_at ei
      have hi := hi xs ei
      have efl : faultV H ss (.ref a) = faultL ss xs := by unfold faultV; rw [ei]
      rw [efl] at k
      obtain ⟨a0, a1, a2, a3, r, rfl, hr1⟩ : ∃ a0 a1 a2 a3 r, xs = a0 :: a1 :: a2 :: a3 :: r ∧ r.length ≤ 1 := by
        match xs, h45 with
        | [a0, a1, a2, a3], _ => exact ⟨a0, a1, a2, a3, [], rfl, by decide⟩
        | [a0, a1, a2, a3, a4], _ => exact ⟨a0, a1, a2, a3, [a4], rfl, by simp⟩
      have i0 := (hi a0 (by simp)).same s1
      have g1 := s1 _ _ ha
      obtain ⟨T0, t0⟩ := i0.1
      have k4 : ∀ z, fault4 ss a0 a1 a2 a3 = some z → faultL ss (a0 :: a1 :: a2 :: a3 :: r) = some z := by
        intro z hz
        match r, hr1 with
        | [], _ => exact hz
        | [a4], _ => show (match fault4 ss a0 a1 a2 a3 with | some z => some z | none => _) = _; rw [hz]
      -- the name
      refine ⟨fun b H' => (b = !nm1 a0) ∧ H1 = H', ?_, ?_⟩
      · refine ⟨_, rfl, a, _, _, _, rfl, rfl, SqT.of g1, atI_nat (j := 0) rfl, _, _, _, _, rfl, t0, kit_str t0, _, rfl, ?_⟩
        cases a0 with
        | str z =>
          have hz : z.length ≤ 1000000 := i0.2 z rfl
          refine iteF ?_
          refine ⟨_, rfl, a, _, _, _, rfl, rfl, SqT.of g1, atI_nat (j := 0) rfl, _, z.length, rfl, ⟨small_line hz, rfl⟩, _, _, rfl, rfl, _, rfl, ?_⟩
          by_cases h1 : (1 : Int) ≤ z.length
          · rw [decide_eq_true h1]
            refine iteT ⟨_, _, rfl, rfl, _, rfl, ?_⟩
            by_cases h8 : (z.length : Int) ≤ 8
            · rw [decide_eq_true h8]
              refine iteF ?_
              have hw : within (.int z.length) 1 8 = true := by simp [within, h1, h8]
              obtain ⟨c, rr, hc⟩ := head_of hw
              refine ⟨_, rfl, a, _, _, _, rfl, rfl, SqT.of g1, atI_nat (j := 0) rfl, z, 0, c, rfl, rfl, small_line hz, at0 hc, _, rfl, c, _, rfl, rfl, _, rfl, ?_, rfl⟩
              show _ = !(within (.int z.length) 1 8 && (match z.cps.toList with | c :: _ => decide (c ∈ LET.cps.toList) | [] => false))
              rw [hw, hc]
              rfl
            · rw [decide_eq_false h8]
              refine iteT ⟨?_, rfl⟩
              simp [nm1, within, h8]
          · rw [decide_eq_false h1]
            refine iteF ⟨_, rfl, iteT ⟨?_, rfl⟩⟩
            simp [nm1, within, h1]
        | _ => exact iteT ⟨rfl, rfl⟩
      rintro _ _ ⟨rfl, rfl⟩
      cases en1 : nm1 a0 with
      | false =>
        rw [k4 "name" (by unfold fault4; rw [if_pos (isName_0 en1)])] at k
        exact iteT (k _ s1)
      | true =>
        refine iteF ?_
        obtain ⟨z, rfl⟩ : ∃ z, a0 = .str z := by
          cases a0 with
          | str z => exact ⟨z, rfl⟩
          | _ => cases en1
        have hz8 : (z.length : Int) ≤ 8 := by
          unfold nm1 at en1
          rw [Bool.and_eq_true] at en1
          exact within_le en1.1
        -- its signs
        refine ⟨fun b H' => (b = !among z (LET ++ FIG)) ∧ Same H1 H', ?_, ?_⟩
        · refine ⟨_, rfl, a, _, _, _, rfl, rfl, SqT.of g1, atI_nat (j := 0) rfl, z, rfl, fun lp nl => lc_str (x := z) (fun i H2 => Same H1 H2 ∧ H2 lp = some (.lst (((z.cps.toList.take i).filter fun c => !decide (c ∈ (LET ++ FIG).cps.toList)).map fun c => V.str ⟨#[c]⟩)) ∧ i ≤ z.cps.size) ⟨same_new nl, upd_same, Nat.zero_le _⟩ ?_ ?_⟩
          · rintro i c H2 hc ⟨s2, h2, hil⟩
            have hlt : i < z.cps.size := by have := (List.getElem?_eq_some_iff.mp hc).1; simpa using this
            refine ⟨rfl, _, rfl, _, rfl, _, _, rfl, rfl, (by decide +kernel), c, LET ++ FIG, rfl, rfl, _, rfl, ?_⟩
            have ft : (z.cps.toList.take (i + 1)).filter (fun c => !decide (c ∈ (LET ++ FIG).cps.toList)) = (z.cps.toList.take i).filter (fun c => !decide (c ∈ (LET ++ FIG).cps.toList)) ++ (if (!decide (c ∈ (LET ++ FIG).cps.toList)) = true then [c] else []) := by
              rw [List.take_add_one, hc, List.filter_append]
              congr 1
              show List.filter _ [c] = _
              rw [List.filter_cons, List.filter_nil]
            cases hb : (!decide (c ∈ (LET ++ FIG).cps.toList)) with
            | false =>
              rw [hb] at ft
              refine iteF ⟨s2, ?_, hlt⟩
              rw [h2, ft]
              simp
            | true =>
              rw [hb] at ft
              refine iteT ⟨_, rfl, _, h2, ?_, fun b u e => ?_, ?_, hlt⟩
              · have h1 := List.length_filter_le (fun c => !decide (c ∈ (LET ++ FIG).cps.toList)) (z.cps.toList.take i)
                have h2 : (z.cps.toList.take i).length ≤ 8 := by
                  have := len_list z
                  rw [List.length_take]
                  omega
                rw [List.length_map]
                exact small1000 (by omega)
              · rw [upd_ne (ne_of_none e nl)]
                exact s2 _ _ e
              · rw [upd_same, ft]
                simp
          · rintro H2 ⟨s2, h2, _⟩
            have et : z.cps.toList.take z.cps.size = z.cps.toList := List.take_of_length_le (by simp)
            rw [et] at h2
            refine ⟨(by show 0 ≤ sizeLine; decide), fun p2 n2 => ?_⟩
            generalize e3 : upd H2 p2 _ = H3
            have s3 := upd_sm e3 n2
            have h2' := s3 _ _ h2
            cases ha : among z (LET ++ FIG) with
            | true =>
              rw [filt_nil.mpr ha] at h2'
              exact ⟨lp, p2, true, rfl, rfl, .lst (SqL.of h2') (SqL.of (upd_at e3)) .nil, _, rfl, rfl, s2.trans s3⟩
            | false =>
              refine ⟨lp, p2, false, rfl, rfl, .lstN (SqL.of h2') (SqL.of (upd_at e3)) ?_, _, rfl, rfl, s2.trans s3⟩
              intro q
              rw [List.length_map] at q
              have q' := filt_nil.mp (List.eq_nil_of_length_eq_zero q)
              rw [ha] at q'
              cases q'
        rintro _ H2 ⟨rfl, s12⟩
        have s2 := s1.trans s12
        have g2 := s2 _ _ ha
        cases eam : among z (LET ++ FIG) with
        | false =>
          rw [k4 "name" (by unfold fault4; rw [if_pos (by rw [isName_1, eam, Bool.and_false])])] at k
          exact iteT (k _ s2)
        | true =>
          refine iteF ?_
          have en : isName (.str z) = true := by rw [isName_1, en1, eam]; rfl
          refine ⟨_, rfl, a, _, _, _, rfl, rfl, SqT.of g2, atI_nat (j := 0) rfl, _, rfl, q, ss, rfl, .inl (SqL.of (s2 _ _ hq)), .inl rfl, _, rfl, ?_⟩
          cases ed : (ss.any fun y => eqS y (.str z)) with
          | true =>
            rw [k4 "double" (by unfold fault4; rw [if_neg (by rw [en]; decide), if_pos ed])] at k
            exact iteT (k _ s2)
          | false =>
            refine iteF ?_
            obtain ⟨T1, t1⟩ := ((hi a1 (by simp)).same s2).1
            refine ⟨fun b H' => (b = !within a1 0 200) ∧ H2 = H', ?_, ?_⟩
            · refine ⟨_, rfl, a, _, _, _, rfl, rfl, SqT.of g2, atI_nat (j := 1) rfl, _, _, rfl, t1, _, rfl, ?_⟩
              cases a1 with
              | int i =>
                refine iteF ?_
                refine ⟨ _, rfl, a, _, _, _, rfl, rfl, SqT.of g2, atI_nat (j := 1) rfl, _, _, rfl, rfl, _, rfl, ?_⟩
                show if decide (0 ≤ i) = true then _ else _
                by_cases h1 : 0 ≤ i
                · rw [decide_eq_true h1]
                  refine iteT ⟨ _, _, rfl, rfl, _, rfl, ?_, rfl⟩
                  simp [within, h1]
                · rw [decide_eq_false h1]
                  refine iteF ⟨_, rfl, ?_, rfl⟩
                  simp [within, h1]
              | _ => exact iteT ⟨rfl, rfl⟩
            rintro _ _ ⟨rfl, rfl⟩
            cases ew : within a1 0 200 with
            | false =>
              rw [k4 "first" (by unfold fault4; rw [if_neg (by rw [en]; decide), if_neg (by rw [ed]; decide), if_pos (show within a1 0 (199 + 1) = false from ew)])] at k
              exact iteT (k _ s2)
            | true =>
              refine iteF ?_
              obtain ⟨b1, rfl⟩ : ∃ b1, a1 = .int b1 := by
                cases a1 with
                | int b1 => exact ⟨b1, rfl⟩
                | _ => cases ew
              obtain ⟨T2, t2⟩ := ((hi a2 (by simp)).same s2).1
              refine ⟨fun b H' => (b = !within a2 (mx1 (b1 - 1)) 199) ∧ H2 = H', ?_, ?_⟩
              · refine ⟨_, rfl, a, _, _, _, rfl, rfl, SqT.of g2, atI_nat (j := 2) rfl, _, _, rfl, t2, _, rfl, ?_⟩
                cases a2 with
                | int i =>
                  refine iteF ?_
                  refine ⟨_, rfl, a, _, _, _, rfl, rfl, SqT.of g2, atI_nat (j := 1) rfl, _, _, rfl, rfl, _, _, rfl, _, rfl, a, _, _, _, rfl, rfl, SqT.of g2, atI_nat (j := 2) rfl, _, _, rfl, rfl, _, rfl, ?_⟩
                  show if decide ((mx1 (b1 - 1)) ≤ i) = true then _ else _
                  by_cases h1 : (mx1 (b1 - 1)) ≤ i
                  · rw [decide_eq_true h1]
                    refine iteT ⟨ _, _, rfl, rfl, _, rfl, ?_, rfl⟩
                    simp [within, h1]
                  · rw [decide_eq_false h1]
                    refine iteF ⟨_, rfl, ?_, rfl⟩
                    simp [within, h1]
                | _ => exact iteT ⟨rfl, rfl⟩
              rintro _ _ ⟨rfl, rfl⟩
              cases el : within a2 (mx1 (b1 - 1)) 199 with
              | false =>
                rw [k4 "last" (by unfold fault4; rw [if_neg (by rw [en]; decide), if_neg (by rw [ed]; decide), if_neg (by rw [show within (.int b1) 0 (199 + 1) = true from ew]; decide), if_pos (show within a2 (mx1 (iV (V.int b1) - 1)) 199 = false from el)])] at k
                exact iteT (k _ s2)
              | true =>
                refine iteF ?_
                obtain ⟨T3, t3⟩ := ((hi a3 (by simp)).same s2).1
                refine ⟨fun b H' => (b = !within a3 1 12) ∧ H2 = H', ?_, ?_⟩
                · refine ⟨_, rfl, a, _, _, _, rfl, rfl, SqT.of g2, atI_nat (j := 3) rfl, _, _, rfl, t3, _, rfl, ?_⟩
                  cases a3 with
                  | int i =>
                    refine iteF ?_
                    refine ⟨ _, rfl, a, _, _, _, rfl, rfl, SqT.of g2, atI_nat (j := 3) rfl, _, _, rfl, rfl, _, rfl, ?_⟩
                    show if decide (1 ≤ i) = true then _ else _
                    by_cases h1 : 1 ≤ i
                    · rw [decide_eq_true h1]
                      refine iteT ⟨ _, _, rfl, rfl, _, rfl, ?_, rfl⟩
                      simp [within, h1]
                    · rw [decide_eq_false h1]
                      refine iteF ⟨_, rfl, ?_, rfl⟩
                      simp [within, h1]
                  | _ => exact iteT ⟨rfl, rfl⟩
                rintro _ _ ⟨rfl, rfl⟩
                cases eg : within a3 1 12 with
                | false =>
                  rw [k4 "length" (by unfold fault4; rw [if_neg (by rw [en]; decide), if_neg (by rw [ed]; decide), if_neg (by rw [show within (.int b1) 0 (199 + 1) = true from ew]; decide), if_neg (by rw [show within a2 (mx1 (iV (V.int b1) - 1)) 199 = true from el]; decide), if_pos eg])] at k
                  exact iteT (k _ s2)
                | true =>
                  refine iteF ?_
                  obtain ⟨b3, rfl⟩ : ∃ b3, a3 = .int b3 := by
                    cases a3 with
                    | int b3 => exact ⟨b3, rfl⟩
                    | _ => cases eg
                  have e4 : fault4 ss (.str z) (.int b1) a2 (.int b3) = none := by
                    unfold fault4
                    rw [if_neg (by rw [en]; decide), if_neg (by rw [ed]; decide), if_neg (by rw [show within (.int b1) 0 (199 + 1) = true from ew]; decide), if_neg (by rw [show within a2 (mx1 (iV (V.int b1) - 1)) 199 = true from el]; decide), if_neg (by rw [eg]; decide)]
                  refine ⟨_, rfl, _, _, rfl, .inr ⟨_, SqT.of g2, rfl⟩, rfl, _, rfl, ?_⟩
                  match r, hr1 with
                  | [], _ =>
                    have e : faultL ss [.str z, .int b1, a2, .int b3] = none := e4
                    rw [e] at k
                    exact iteF (iteF (k _ s2))
                  | [a4], _ =>
                    have e : faultL ss [.str z, .int b1, a2, .int b3, a4] = if within a4 0 b3 = false then some ("left" : Str) else none := by
                      show (match fault4 ss (.str z) (.int b1) a2 (.int b3) with | some z => some z | none => _) = _
                      rw [e4]
                      rfl
                    rw [e] at k
                    obtain ⟨T4, t4⟩ := ((hi a4 (by simp)).same s2).1
                    refine iteT ?_
                    refine ⟨fun b H' => (b = !within a4 0 b3) ∧ H2 = H', ?_, ?_⟩
                    · refine ⟨_, rfl, a, _, _, _, rfl, rfl, SqT.of g2, atI_nat (j := 4) rfl, _, _, rfl, t4, _, rfl, ?_⟩
                      cases a4 with
                      | int i =>
                        refine iteF ?_
                        refine ⟨ _, rfl, a, _, _, _, rfl, rfl, SqT.of g2, atI_nat (j := 4) rfl, _, _, rfl, rfl, _, rfl, ?_⟩
                        show if decide (0 ≤ i) = true then _ else _
                        by_cases h1 : 0 ≤ i
                        · rw [decide_eq_true h1]
                          refine iteT ⟨_, rfl, a, _, _, _, rfl, rfl, SqT.of g2, atI_nat (j := 3) rfl, _, _, rfl, rfl, _, rfl, ?_, rfl⟩
                          simp [within, h1]
                        · rw [decide_eq_false h1]
                          refine iteF ⟨_, rfl, ?_, rfl⟩
                          simp [within, h1]
                      | _ => exact iteT ⟨rfl, rfl⟩
                    rintro _ _ ⟨rfl, rfl⟩
                    cases ef : within a4 0 b3 with
                    | false =>
                      rw [if_pos ef] at k
                      exact iteT (k _ s2)
                    | true =>
                      rw [if_neg (by rw [ef]; decide)] at k
                      exact iteF (k _ s2)
/-- its own look at all rows -/
abbrev s__law_fault : Stmt := top 30
theorem sc__law_fault : FnScope ["_law_thing_here", "_law_known", "_law_at", "_law_row", "_law_why"] ["_law_thing_here"] (defScope s__law_fault) := ⟨rfl, rfl, rfl, by decide +kernel, rfl, by decide +kernel, by decide +kernel⟩
theorem ok__law_fault {f : Addr} {fd : FuncData} (F : Fun K "_law_fault" "_law_fault" s__law_fault f fd) (T : Txt K mg D) (c__law_row_fault : CalF P w K mg base 2 "_law_row_fault" ["_law_known", "_law_row"] (sp_lfault K)) : FnOk P w K mg base CX0 3 f fd ["_law_thing_here"] (sp_lflt K) := by
  refine F.ok sc__law_fault (fun vs H Q E h => ?_) (fun cdv A outer s H vs Q E hr h => ?_)
  · obtain ⟨x, rfl, hx, hE, hQ⟩ := h
    rfl
  · obtain ⟨x, rfl, hx, hE, hQ⟩ := h
    refine ⟨_, (@pss_cons _ _ _ _ _ (@ps_if _ _ _ _ _ _ _ _ (@pt_not _ _ _ _ (@pt_val _ _ _ (@pe_callB _ _ _ _ _ _ _ _ _ (call_isinstT (K := K) rfl) (by rfl) T.b_isinstance (by decide +kernel) (@pa_c _ _ _ _ _ (@pv _ 0 _ _ (by rfl) (by first | exact Or.inl rfl | exact Or.inr (Or.inl rfl) | exact Or.inr (Or.inr rfl)) (by decide) (by decide)) (@pa_c _ _ _ _ _ (@pe_tup _ _ _ _ _ (@pa_c _ _ _ _ _ (@pe_type _ _ "list" _ rfl T.b_list (by decide +kernel) (by decide) (by decide)) (@pa_c _ _ _ _ _ (@pe_type _ _ "tuple" _ rfl T.b_tuple (by decide +kernel) (by decide) (by decide)) (@pa_nil _) (by rfl)) (by rfl))) (@pa_nil _) (by rfl)) (by rfl)) (by decide) (by decide) (by rfl) (by rfl)) (by intro _; rfl))) (@pss_one _ _ _ (@ps_ret _ _ _ _ (@pe_tup _ _ _ _ _ (@pa_c _ _ _ _ _ (@pe_non _ _ _) (@pa_c _ _ _ _ _ (@pe_str _ _ _ _) (@pa_nil _) (by rfl)) (by rfl))))) (@pss_nil _)) 
      (@pss_cons _ _ _ _ _ (@ps_if _ _ _ _ _ _ _ _ (@pt_cmpR _ _ _ _ _ _ _ _ op_gt (@pe_callB _ _ _ _ _ _ _ _ _ (call_lenK (K := K) rfl) (by rfl) T.b_len (by decide +kernel) (@pa_c _ _ _ _ _ (@pv _ 0 _ _ (by rfl) (by first | exact Or.inl rfl | exact Or.inr (Or.inl rfl) | exact Or.inr (Or.inr rfl)) (by decide) (by decide)) (@pa_nil _) (by rfl)) (by decide) (by decide) (by rfl) (by rfl)) (@pe_int _ _ _ _) (nomark _)) (@pss_one _ _ _ (@ps_ret _ _ _ _ (@pe_tup _ _ _ _ _ (@pa_c _ _ _ _ _ (@pe_int _ _ _ _) (@pa_c _ _ _ _ _ (@pe_str _ _ _ _) (@pa_nil _) (by rfl)) (by rfl))))) (@pss_nil _)) 
      (@pss_cons _ _ _ _ _ (@ps_set _ _ 1 _ _ _ _ sc__law_fault.nd rfl (by first | exact Or.inl rfl | exact Or.inr rfl) (@pe_lst _ _ _ _ (@pa_nil _)) (by rfl) (by first | exact .inl rfl | exact .inr rfl | assumption)) 
      (@pss_cons _ _ _ _ _ (@ps_for _ _ _ _ _ _ _ _ PassesOwn.never rfl (@pi_enumX _ _ _ _ _ _ _ _ (by rfl) T.b_enumerate (@pa_c _ _ _ _ _ (@pv _ 0 _ _ (by rfl) (by first | exact Or.inl rfl | exact Or.inr (Or.inl rfl) | exact Or.inr (Or.inr rfl)) (by decide) (by decide)) (@pa_nil _) (by rfl)) (by rfl)) (@pg_tup _ _ _ _ _ _ (by rfl) (@pgs_cons _ _ _ _ _ (@pg_name _ _ 2 _ sc__law_fault.nd rfl (by first | exact Or.inl rfl | exact Or.inr rfl) (by first | exact .inl rfl | exact .inr rfl | assumption)) (@pgs_cons _ _ _ _ _ (@pg_name _ _ 3 _ sc__law_fault.nd rfl (by first | exact Or.inl rfl | exact Or.inr rfl) (by first | exact .inl rfl | exact .inr rfl | assumption)) (@pgs_nil _) (by rfl)) (by rfl)) (by rfl) (by rfl)) (@pss_cons _ _ _ _ _ (@ps_set _ _ 4 _ _ _ _ sc__law_fault.nd rfl (by first | exact Or.inl rfl | exact Or.inr rfl) (@pe_fun _ _ _ _ _ _ _ _ _ _ _ c__law_row_fault hr (@pa_c _ _ _ _ _ (@pv _ 1 _ _ (by rfl) (by first | exact Or.inl rfl | exact Or.inr (Or.inl rfl) | exact Or.inr (Or.inr rfl)) (by decide) (by decide)) (@pa_c _ _ _ _ _ (@pv _ 3 _ _ (by rfl) (by first | exact Or.inl rfl | exact Or.inr (Or.inl rfl) | exact Or.inr (Or.inr rfl)) (by decide) (by decide)) (@pa_nil _) (by rfl)) (by rfl)) (by rfl) (by decide) (by decide) (by rfl) (by rfl)) (by rfl) (by first | exact .inl rfl | exact .inr rfl | assumption)) 
      (@pss_cons _ _ _ _ _ (@ps_if _ _ _ _ _ _ _ _ (@pt_cmpR _ _ _ _ _ _ _ _ op_ne (@pv _ 4 _ _ (by rfl) (by first | exact Or.inl rfl | exact Or.inr (Or.inl rfl) | exact Or.inr (Or.inr rfl)) (by decide) (by decide)) (@pe_str _ _ _ _) (nomark _)) (@pss_one _ _ _ (@ps_ret _ _ _ _ (@pe_tup _ _ _ _ _ (@pa_c _ _ _ _ _ (@pv _ 2 _ _ (by rfl) (by first | exact Or.inl rfl | exact Or.inr (Or.inl rfl) | exact Or.inr (Or.inr rfl)) (by decide) (by decide)) (@pa_c _ _ _ _ _ (@pv _ 4 _ _ (by rfl) (by first | exact Or.inl rfl | exact Or.inr (Or.inl rfl) | exact Or.inr (Or.inr rfl)) (by decide) (by decide)) (@pa_nil _) (by rfl)) (by rfl))))) (@pss_nil _)) 
      (@pss_one _ _ _ (@ps_expr _ _ _ _ (@pe_bm _ _ _ _ _ _ _ _ _ _ _ _ PySem.F.plainAttrs_list PySem.F.slot_list_append PySem.F.type_list_append mt_append (@pv _ 1 _ _ (by rfl) (by first | exact Or.inl rfl | exact Or.inr (Or.inl rfl) | exact Or.inr (Or.inr rfl)) (by decide) (by decide)) (@pa_c _ _ _ _ _ (@pe_ix _ _ _ _ _ _ _ (ix_tupK (K := K) rfl) (@pv _ 3 _ _ (by rfl) (by first | exact Or.inl rfl | exact Or.inr (Or.inl rfl) | exact Or.inr (Or.inr rfl)) (by decide) (by decide)) (@pe_int _ _ _ _) (fun _ _ => rfl)) (@pa_nil _) (by rfl)) (by rfl) (by rfl) (by rfl) (by rfl) (by rfl)) (by rfl))))) (by intro _; rfl)) 
      (@pss_one _ _ _ (@ps_ret _ _ _ _ (@pe_non _ _ _))))))), ?_⟩
    obtain ⟨Ty, ht⟩ := hx.ty
    refine ⟨_, rfl, (by show 2 ≤ sizeLine; decide), fun p1 n1 => ?_⟩
    generalize e1 : upd H p1 _ = H1
    have s1 := upd_sm e1 n1
    refine ⟨x, ["list", "tuple"], p1, Ty, _, rfl, upd_at e1, ty_same ht s1, kit_seq ht hx.nf, _, rfl, ?_⟩
    cases es : seqOf H x with
    | none =>
      refine iteT ⟨(by show 2 ≤ sizeLine; decide), fun t nt => ?_⟩
      exact hE .non "form" (by unfold fltOf; rw [es]) t _ (s1.trans (same_new nt)) (s1.none nt) upd_same
    | some xs =>
      refine iteF ?_
      obtain ⟨a, rfl, hs⟩ := seq_at es
      obtain ⟨hlen, hrow⟩ := hx.it xs es
      have hfl : fltOf H (.ref a) = fltL H xs := by unfold fltOf; rw [es]
      rw [hfl] at hE hQ
      have hs1 : H1 a = some (.lst xs) ∨ H1 a = some (.tup xs) := hs.imp (s1 _ _) (s1 _ _)
      have hL : LenV K (.ref a) H1 xs.length := hs1.elim (fun h => .inl ⟨_, SqL.of h, rfl⟩) (fun h => .inr ⟨_, SqT.of h, rfl⟩)
      refine ⟨_, rfl, _, _, rfl, hL, _, _, rfl, rfl, _, rfl, ?_⟩
      by_cases h30 : 30 < xs.length
      · rw [decide_eq_true (show (30 : Int) < (xs.length : Nat) by omega)]
        refine iteT ⟨(by show 2 ≤ sizeLine; decide), fun t nt => ?_⟩
        exact hE (.int 30) "many" (by unfold fltL; rw [if_pos h30]) t _ (s1.trans (same_new nt)) (s1.none nt) upd_same
      · rw [decide_eq_false (show ¬ (30 : Int) < (xs.length : Nat) by omega)]
        refine iteF ?_
        have hfl2 : fltL H xs = (goodF H 0 [] xs).map fun p => (V.int p.1, p.2) := by unfold fltL; rw [if_neg h30]
        rw [hfl2] at hE hQ
        refine ⟨(by show 0 ≤ sizeLine; decide), fun kp nk => ?_⟩
        generalize f1 : upd H1 kp _ = G1
        have t1 := upd_sm f1 nk
        refine ⟨_, rfl, a, rfl, for_enumX (K := K) (a := a) (xs := xs) (fun i σ H2 => ∃ (ss : List Str) (v3 v4 v5 : Option V), σ = [some (.ref a), some (.ref kp), v3, v4, v5] ∧ Same H1 H2 ∧ H2 kp = some (.lst (ss.map V.str)) ∧ ss.length = i ∧ i ≤ xs.length ∧ goodF H 0 [] xs = goodF H i ss (xs.drop i))
          ⟨[], none, none, none, rfl, t1, upd_at f1, rfl, Nat.zero_le _, rfl⟩ ?_ ?_ ?_⟩
        · rcases hs1 with h | h
          · exact .inl fun i σ H2 _ ⟨ss, v3, v4, v5, _, sm, _⟩ => SqL.of (sm _ _ h)
          · exact .inr fun i σ H2 _ ⟨ss, v3, v4, v5, _, sm, _⟩ => SqT.of (sm _ _ h)
        · rintro i y T1 σ H2 hy ⟨ss, v3, v4, v5, rfl, sm, hk, hss, hil, eg⟩ nT
          have hym : y ∈ xs := List.mem_of_getElem? hy
          have hilt : i < xs.length := (List.getElem?_eq_some_iff.mp hy).1
          have hri := hrow y hym
          refine ⟨T1, _, rfl, SqT.of upd_same, rfl, _, _, rfl, _, _, rfl, rfl, ?_⟩
          generalize e3 : upd H2 T1 _ = H3
          have s3 := upd_sm e3 nT
          have sH3 : Same H H3 := (s1.trans sm).trans s3
          obtain ⟨Ty3, t3⟩ := (hri.same sH3).1
          refine ⟨_, rfl, _, rfl, kp, ss, y, Ty3, rfl, s3 _ _ hk, t3, (hri.same sH3).2, fun H4 s4 => ?_⟩
          rw [(hri.flt sH3).1]
          have sH4 := sH3.trans s4
          have hk4 := s4 _ _ (s3 _ _ hk)
          have st := goodF_step (H := H) (ss := ss) hy
          refine ⟨_, rfl, rfl, _, rfl, ?_⟩
          cases ef : faultV H ss y with
          | some z =>
            rw [ef] at st
            have hz : (!decide (V.str ((some z).getD ("" : Str)) = V.str "")) = true := by
              have hw := fault_words ef
              rw [decide_eq_false]
              · rfl
              · intro q
                injection q with q
                have q' : z = ("" : Str) := q
                rw [q'] at hw
                cases hw
            show if (!decide (V.str ((some z).getD ("" : Str)) = V.str "")) = true then _ else _
            rw [hz]
            refine iteT ⟨_, rfl, _, rfl, (by show 2 ≤ sizeLine; decide), fun t nt => ?_⟩
            refine hE (.int i) z ?_ t _ (sH4.trans (same_new nt)) (sH4.none nt) upd_same
            rw [eg, st]
            rfl
          | none =>
            rw [ef] at st
            have hz : (!decide (V.str ((none : Option Str).getD ("" : Str)) = V.str "")) = false := by decide +kernel
            show if (!decide (V.str ((none : Option Str).getD ("" : Str)) = V.str "")) = true then _ else _
            rw [hz]
            refine iteF ?_
            obtain ⟨b, nm, f0, l0, g0, r0, rfl, hb, hr1, erow, ehd⟩ := fault_none ef
            have hb4 := sH4 _ _ hb
            refine ⟨_, rfl, .inl ⟨rfl, _, SqL.of hk4⟩, _, rfl, b, _, _, _, rfl, rfl, SqT.of hb4, atI_nat (j := 0) rfl, kp, _, _, rfl, rfl, hk4, ?_, ?_⟩
            · rw [List.length_map, hss]
              exact small1000 (by omega)
            refine ⟨ss ++ [nm], _, _, _, rfl, fun c o hc => ?_, ?_, ?_, hilt, ?_⟩
            · rw [upd_ne (ne_of_none hc nk)]
              exact s4 _ _ (s3 _ _ (sm _ _ hc))
            · rw [upd_same]
              simp
            · simp [hss]
            · rw [eg, st, erow]
        · rintro σ H2 ⟨ss, v3, v4, v5, rfl, sm, hk, hss, hil, eg⟩
          have hno : goodF H 0 [] xs = none := by
            rw [eg, List.drop_length]
            rfl
          rw [hno] at hQ
          exact hQ rfl _ (s1.trans sm)
end

end K05

set_option Elab.async false
set_option linter.all false
set_option maxRecDepth 100000
set_option maxHeartbeats 4000000
namespace K05
open PySem L2
/-! ### the program's answer -/
theorem lk_two {n m : Str} {u v : V} {r : List (Str × V)} (h : (n == m) = false) : List.lookup n ((m, u) :: (n, v) :: r) = some v := by simp [List.lookup, h]
theorem flt_at {H : Hp} {x at_ : V} {why : Str} (h : fltOf H x = some (at_, why)) : at_ = .non ∨ ∃ i, at_ = .int i := by
  unfold fltOf at h
  split at h
  · cases h
    exact .inl rfl
  · unfold fltL at h
    split at h
    · cases h
      exact .inr ⟨_, rfl⟩
    · rename_i xs _ _
      cases e : goodF H 0 [] xs with
      | none => rw [e] at h; cases h
      | some p =>
        rw [e] at h
        cases h
        exact .inr ⟨_, rfl⟩
section
variable {P : Program} {w : World} {K : PySem.W.Frag} {mg : Str → Option Value} {base : Heap} {D : Ad}
abbrev s__law_answer : Stmt := top 32
theorem sc__law_answer : FnScope ["_law_thing_here", "_law_told", "e"] ["_law_thing_here"] (defScope s__law_answer) := ⟨rfl, rfl, rfl, by decide +kernel, rfl, by decide +kernel, by decide +kernel⟩
theorem ok__law_answer {f : Addr} {fd : FuncData} (F : Fun K "_law_answer" "_law_answer" s__law_answer f fd) (T : Txt K mg D) (c_Pieces : CalM P w K mg base (CXF P w) 6 "Pieces" D.Pieces ["self", "rows"] (sp_Pinit K D)) : FnOk P w K mg base CX0 8 f fd ["_law_thing_here"] (sp_lflt K) := by
  refine F.ok sc__law_answer (fun vs H Q E h => ?_) (fun cdv A outer s H vs Q E hr h => ?_)
  · obtain ⟨x, rfl, hx, hE, hQ⟩ := h
    rfl
  · obtain ⟨x, rfl, hx, hE, hQ⟩ := h
    refine ⟨_, (@pss_cons _ _ _ _ _ (@ps_set _ _ 1 _ _ _ _ sc__law_answer.nd rfl (by first | exact Or.inl rfl | exact Or.inr rfl) (@pe_non _ _ _) (by rfl) (by first | exact .inl rfl | exact .inr rfl | assumption)) 
      (@pss_cons _ _ _ _ _ (@ps_try _ _ _ _ _ _ _ rfl rfl (fun pn1 xe1 LO1 hL1 => (@pss_one _ _ _ (@ps_expr _ _ _ _ (@pe_mkE _ _ _ _ _ _ LO1 _ _ _ _ _ _ c_Pieces hr hL1 (@pa_c _ _ _ _ _ (@pv _ 0 _ _ (by rfl) (by first | exact Or.inl rfl | exact Or.inr (Or.inl rfl) | exact Or.inr (Or.inr rfl)) (by decide) (by decide)) (@pa_nil _) (by rfl)) (by rfl) (by decide) (by decide) (by rfl) (by rfl)) (by rfl)))) (@ph_as _ _ _ _ _ 2 _ _ _ _ _ _ T.h_BadPieces T.x_BadPieces sc__law_answer.nd rfl rfl (fun a1 => (@pss_cons _ _ _ _ _ (@ps_set _ _ 1 _ _ _ _ sc__law_answer.nd rfl (by first | exact Or.inl rfl | exact Or.inr rfl) (@pe_tup _ _ _ _ _ (@pa_c _ _ _ _ _ (@pe_rfldK _ K _ _ _ _ rfl (@pv _ 2 _ _ (by rfl) (by first | exact Or.inl rfl | exact Or.inr (Or.inl rfl) | exact Or.inr (Or.inr rfl)) (by decide) (by decide)) rfl) (@pa_c _ _ _ _ _ (@pe_rfldK _ K _ _ _ _ rfl (@pv _ 2 _ _ (by rfl) (by first | exact Or.inl rfl | exact Or.inr (Or.inl rfl) | exact Or.inr (Or.inr rfl)) (by decide) (by decide)) rfl) (@pa_nil _) (by rfl)) (by rfl))) (by rfl) (by first | exact .inl rfl | exact .inr rfl | assumption)) 
      (@pss_one _ _ _ (@ps_if _ _ _ _ _ _ _ _ (@PW.pt _ _ _ (@pw_or _ _ _ _ _ _ _ (@pt_val _ _ _ (@pe_callB _ _ _ _ _ _ _ _ _ (call_isinstK (K := K) rfl) (by rfl) T.b_isinstance (by decide +kernel) (@pa_c _ _ _ _ _ (@pe_rfldK _ K _ _ _ _ rfl (@pv _ 2 _ _ (by rfl) (by first | exact Or.inl rfl | exact Or.inr (Or.inl rfl) | exact Or.inr (Or.inr rfl)) (by decide) (by decide)) rfl) (@pa_c _ _ _ _ _ (@pe_type _ _ "bool" _ rfl T.b_bool (by decide +kernel) (by decide) (by decide)) (@pa_nil _) (by rfl)) (by rfl)) (by decide) (by decide) (by rfl) (by rfl)) (by intro _; rfl)) (@pw_or1 _ _ _ _ (@pt_not _ _ _ _ (@pt_val _ _ _ (@pe_callB _ _ _ _ _ _ _ _ _ (call_isr (K := K) rfl) (by rfl) T.b_isinstance (by decide +kernel) (@pa_c _ _ _ _ _ (@pv _ 2 _ _ (by rfl) (by first | exact Or.inl rfl | exact Or.inr (Or.inl rfl) | exact Or.inr (Or.inr rfl)) (by decide) (by decide)) (@pa_c _ _ _ _ _ (@pe_gc _ _ _ _ T.g_SlackError (by rfl) (by decide)) (@pa_nil _) (by rfl)) (by rfl)) (by decide) (by decide) (by rfl) (by rfl)) (by intro _; rfl)))))) (@pss_one _ _ _ (@ps_set _ _ 1 _ _ _ _ sc__law_answer.nd rfl (by first | exact Or.inl rfl | exact Or.inr rfl) (@pe_str _ _ _ _) (by rfl) (by first | exact .inl rfl | exact .inr rfl | assumption))) (@pss_nil _))))) (@ph_never _ _) (by rfl) (by decide))) 
      (@pss_one _ _ _ (@ps_ret _ _ _ _ (@pv _ 1 _ _ (by rfl) (by first | exact Or.inl rfl | exact Or.inr (Or.inl rfl) | exact Or.inr (Or.inr rfl)) (by decide) (by decide)))))), ?_⟩
    refine ⟨_, rfl, _, rfl, mk_Pieces hx (fun at_ why ef => RaiseX.mk fun a dd oT H2 s2 na ne e1 e2 => ⟨a, D.BadPieces, rfl, rfl, ?_⟩) fun ef o t L' H2 s2 no po er => ?_⟩
    · refine ⟨T.x_BadPieces, true, (T.m_BadPieces.mro _).trans (by simp), iteT ?_⟩
      refine ⟨_, rfl, a, D.BadPieces, dd, oT, _, at_, rfl, e1, e2, T.x_BadPieces, T.n_BadPieces_at, lk_one, _, rfl, a, D.BadPieces, dd, oT, _, .str why, rfl, e1, e2, T.x_BadPieces, T.n_BadPieces_why, lk_two (by decide +kernel), (by show 2 ≤ sizeLine; decide), fun t nt => ?_⟩
      generalize e3 : upd H2 t _ = H3
      have s3 := upd_sm e3 nt
      have key : ∃ Ty, TyOf K H3 at_ (.type Ty) ∧ isB at_ = false := by
        rcases flt_at ef with rfl | ⟨i, rfl⟩
        · exact ⟨_, .non, rfl⟩
        · exact ⟨_, .int i, rfl⟩
      obtain ⟨Ty, ty, hb⟩ := key
      refine ⟨_, rfl, a, D.BadPieces, dd, oT, _, at_, rfl, s3 _ _ e1, s3 _ _ e2, T.x_BadPieces, T.n_BadPieces_at, lk_one, _, _, _, _, rfl, ty, kit_bool ty, _, rfl, ?_⟩
      rw [hb]
      refine iteF ?_
      refine ⟨_, rfl, a, D.BadPieces, some dd, oT, _, D.SlackError, true, rfl, s3 _ _ e1, (fun d' h => by cases h; exact s3 _ _ e2), T.x_BadPieces, (kit_x T.m_BadPieces T.m_SlackError).trans (by simp), _, rfl, ?_⟩
      refine iteF ?_
      exact ⟨_, rfl, hE at_ why ef t H3 (s2.trans s3) (s2.none nt) (upd_at e3)⟩
    · exact ⟨_, rfl, hQ ef H2 s2⟩
end

end K05

set_option Elab.async false
set_option linter.all false
set_option maxRecDepth 100000
set_option maxHeartbeats 4000000
namespace K05
open PySem L2
/-! ### rows with a thing otherwise -/
abbrev N4 (p fp : Addr) : Addr → Prop := fun a => a ≠ p ∧ a ≠ fp
structure Sp4 (p fp : Addr) (xs : List V) (odd : V) (r : Nat) (H0 H : Hp) : Prop where
  sb : SameB p H0 H
  bx : Bx H p
  hf : H fp = some (.lst xs)
  dx : ∀ y ∈ xs, Dv (N4 p fp) H [r, 4, 4] y
  dd : Dv (N4 p fp) H [4, 4] odd
/-- a tuple of such things -/
def Tv (N : Addr → Prop) (H : Hp) (n : Nat) (v : V) : Prop := ∃ a ws, v = .ref a ∧ N a ∧ H a = some (.tup ws) ∧ ws.length ≤ n ∧ ∀ y ∈ ws, Dv N H [4, 4] y
section
variable {p fp : Addr} {xs : List V} {odd : V} {r n n1 n2 : Nat} {H0 H H' : Hp} {N : Addr → Prop} {v v1 v2 : V} {K : PySem.W.Frag} {Q : VK}
theorem Sp4.tk (c : Sp4 p fp xs odd r H0 H) (s : SameB p H H') (b : Bx H' p) (ne : fp ≠ p) : Sp4 p fp xs odd r H0 H' :=
  ⟨c.sb.trans s, b, s _ _ c.hf ne, fun y hy => (c.dx y hy).sameB s fun a h => h.1, c.dd.sameB s fun a h => h.1⟩
theorem Sp4.nw (c : Sp4 p fp xs odd r H0 H) (s : Same H H') : Sp4 p fp xs odd r H0 H' := ⟨c.sb.trans s.b, c.bx.same s, s _ _ c.hf, fun y hy => (c.dx y hy).same s, c.dd.same s⟩
theorem Sp4.fr (c : Sp4 p fp xs odd r H0 H) {a : Addr} (h : H a = none) : N4 p fp a := ⟨c.bx.ne h, (ne_of_none c.hf h).symm⟩
theorem Tv.same (h : Tv N H n v) (s : Same H H') : Tv N H' n v := let ⟨a, ws, e, hn, h, hl, hi⟩ := h; ⟨a, ws, e, hn, s _ _ h, hl, fun y hy => (hi y hy).same s⟩
theorem Tv.dv (h : Tv N H n v) (hn : n ≤ n1) : Dv N H [n1, 4, 4] v := let ⟨a, ws, e, hN, h, hl, hi⟩ := h; e ▸ .tup hN h (by omega) hi
theorem cat_tv (h1 : Tv N H n1 v1) (h2 : Tv N H n2 v2) (hz : n1 + n2 ≤ 1000) (hN : ∀ a, H a = none → N a) (k : ∀ v H', Same H H' → Tv N H' (n1 + n2) v → Q v H') : rCatU K v1 v2 H Q := by
  obtain ⟨a, ws, rfl, ha, hw, hl, hi⟩ := h1
  obtain ⟨b, us, rfl, hb, hu, hl2, hi2⟩ := h2
  refine ⟨a, b, ws, us, rfl, rfl, SqT.of hw, SqT.of hu, small_line (by omega), fun _ => k _ H (Same.refl H) ⟨b, us, rfl, hb, hu, by omega, hi2⟩, fun _ _ => k _ H (Same.refl H) ⟨a, ws, rfl, ha, hw, by omega, hi⟩, fun _ _ q nq => ?_⟩
  have s := same_new (o := .tup (ws ++ us)) nq
  refine k _ _ s ⟨q, _, rfl, hN q nq, upd_same, by rw [List.length_append]; omega, fun y hy => ?_⟩
  rcases List.mem_append.mp hy with h | h
  · exact (hi y h).same s
  · exact (hi2 y h).same s
theorem cut_mem {lo hi : Option Int} {y : V} (h : y ∈ cutV xs lo hi) : y ∈ xs := List.mem_of_mem_drop (List.mem_of_mem_take h)
theorem cut_to (pl : Int) (h : 0 ≤ pl) : (cutV xs none (some pl)).length ≤ pl.toNat := by
  unfold cutV
  rw [List.length_take, HT.sIx_none]
  have e := HT.sIx_nat xs.length xs.length pl.toNat
  rw [Int.toNat_of_nonneg h] at e
  rw [e]
  omega
theorem cut_from (pl : Int) (h : 0 ≤ pl) : (cutV xs (some pl) none).length ≤ xs.length - pl.toNat := by
  unfold cutV
  rw [List.length_take, List.length_drop]
  have e := HT.sIx_nat xs.length 0 pl.toNat
  rw [Int.toNat_of_nonneg h] at e
  rw [e, HT.sIx_none]
  omega
theorem sl_tv {lo hi : Option Int} (h1 : Tv N H n1 v1) (hN : ∀ a, H a = none → N a) (k : ∀ v H', Same H H' → Tv N H' n1 v → Q v H') : rSlU K v1 lo hi H Q := by
  obtain ⟨a, ws, rfl, ha, hw, hl, hi'⟩ := h1
  refine ⟨a, ws, rfl, SqT.of hw, fun _ => k _ H (Same.refl H) ⟨a, ws, rfl, ha, hw, hl, hi'⟩, fun _ q nq => ?_⟩
  have s := same_new (o := .tup (cutV ws lo hi)) nq
  exact k _ _ s ⟨q, _, rfl, hN q nq, upd_same, Nat.le_trans (cutV_length ws lo hi) hl, fun y hy => (hi' y (cut_mem hy)).same s⟩
theorem sl_to {a : Addr} {ws : List V} {pl : Int} (hw : H a = some (.tup ws)) (hi' : ∀ y ∈ ws, Dv N H [4, 4] y) (p0 : 0 ≤ pl) (p1 : pl < ws.length) (hN : ∀ a, H a = none → N a) (k : ∀ v H', Same H H' → Tv N H' pl.toNat v → Q v H') : rSlT K (.ref a) none (some pl) H Q := by
  refine ⟨a, ws, rfl, SqT.of hw, fun z => ?_, fun q nq => ?_⟩
  · have z2 := z.2
    have e := HT.sIx_nat ws.length ws.length pl.toNat
    rw [Int.toNat_of_nonneg p0] at e
    rw [e] at z2
    omega
  have s := same_new (o := .tup (cutV ws none (some pl))) nq
  exact k _ _ s ⟨q, _, rfl, hN q nq, upd_same, cut_to pl p0, fun y hy => (hi' y (cut_mem hy)).same s⟩
theorem sl_from {a : Addr} {ws : List V} {pl : Int} (hw : H a = some (.tup ws)) (hi' : ∀ y ∈ ws, Dv N H [4, 4] y) (p0 : 1 ≤ pl) (h0 : ws ≠ []) (hN : ∀ a, H a = none → N a) (k : ∀ v H', Same H H' → Tv N H' (ws.length - pl.toNat) v → Q v H') : rSlT K (.ref a) (some pl) none H Q := by
  refine ⟨a, ws, rfl, SqT.of hw, fun z => ?_, fun q nq => ?_⟩
  · have z1 := z.1
    have e := HT.sIx_nat ws.length 0 pl.toNat
    rw [Int.toNat_of_nonneg (by omega)] at e
    rw [e] at z1
    have := List.length_pos_iff.mpr h0
    omega
  have s := same_new (o := .tup (cutV ws (some pl) none)) nq
  exact k _ _ s ⟨q, _, rfl, hN q nq, upd_same, cut_from pl (by omega), fun y hy => (hi' y (cut_mem hy)).same s⟩
theorem sl_one (h1 : Tv N H n1 v1) (hN : ∀ a, H a = none → N a) (k : ∀ v H', Same H H' → Tv N H' 1 v → Q v H') : rSlU K v1 none (some 1) H Q := by
  obtain ⟨a, ws, rfl, ha, hw, hl, hi'⟩ := h1
  refine ⟨a, ws, rfl, SqT.of hw, fun z => k _ H (Same.refl H) ⟨a, ws, rfl, ha, hw, ?_, hi'⟩, fun _ q nq => ?_⟩
  · have z2 := z.2
    have e := HT.sIx_nat ws.length ws.length 1
    rw [show ((1 : Nat) : Int) = 1 from rfl] at e
    rw [e] at z2
    omega
  have s := same_new (o := .tup (cutV ws none (some 1))) nq
  exact k _ _ s ⟨q, _, rfl, hN q nq, upd_same, cut_to 1 (by decide), fun y hy => (hi' y (cut_mem hy)).same s⟩
theorem one_tv {q : Addr} (nq : H q = none) (hN : ∀ a, H a = none → N a) (d : Dv N H [4, 4] v) : Tv N (upd H q (.tup [v])) 1 (.ref q) :=
  ⟨q, _, rfl, hN q nq, upd_same, by simp, all_cons (d.same (same_new nq)) all_nil⟩
theorem ixN_in {n : Nat} {i : Int} (h0 : 0 ≤ i) (h1 : i < n) : ixN n i = some i.toNat := by
  unfold ixN
  rw [if_pos h0, if_pos h1]
end
def sp_spoilt : Sp := fun vs H Q _ => ∃ p q xs m r, vs = [.ref p, .ref q] ∧ Bx H p ∧ H q = some (.lst xs) ∧ xs.length ≤ m ∧ 30 ≤ m ∧ m ≤ 36 ∧ 5 ≤ r ∧ r ≤ 8 ∧ (∀ y ∈ xs, Dv (· ≠ p) H [r, 4, 4] y) ∧ ∀ x H', SameB p H H' → Bx H' p → Dv (· ≠ p) H' [m + 1, r + 1, 4, 4] x → Q x H'
theorem le_odd {m r : Nat} (hm : 30 ≤ m) (hr : 5 ≤ r) : LeB [4, 4] [m + 1, r + 1, 4, 4] := .cons (by omega) (.cons (by omega) .nil)
theorem le_row {r : Nat} : LeB [r, 4, 4] [r + 1, 4, 4] := .cons (by omega) .refl
theorem le_odr {r : Nat} (hr : 5 ≤ r) : LeB [4, 4] [r + 1, 4, 4] := .cons (by omega) (.cons (by omega) .nil)
theorem N4.dv {p fp : Addr} {H : Hp} {bs : List Nat} {x : V} (h : Dv (N4 p fp) H bs x) : Dv (· ≠ p) H bs x := h.imp fun a o n e => n.1
section
variable {P : Program} {w : World} {K : PySem.W.Frag} {mg : Str → Option Value} {base : Heap} {D : Ad}
abbrev s__law_spoilt : Stmt := top 31
theorem sc__law_spoilt : FnScope ["_law_box_here", "_law_rows_here", "_law_found", "_law_odd", "_law_way", "_law_at", "_law_row", "_law_place", "_law_number", "_law_other"] ["_law_box_here", "_law_rows_here"] (defScope s__law_spoilt) := ⟨rfl, rfl, rfl, by decide +kernel, rfl, by decide +kernel, by decide +kernel⟩
theorem ok__law_spoilt {f : Addr} {fd : FuncData} (F : Fun K "_law_spoilt" "_law_spoilt" s__law_spoilt f fd) (T : Txt K mg D) (c__law_take : CalF P w K mg base 1 "_law_take" ["_law_box_here", "_law_many"] (sp_take)) (c__law_thing : CalF P w K mg base 2 "_law_thing" ["_law_box_here"] (sp_thing)) : FnOk P w K mg base CX0 3 f fd ["_law_box_here", "_law_rows_here"] (sp_spoilt) := by
  refine F.ok sc__law_spoilt (fun vs H Q E h => ?_) (fun cdv A outer s H vs Q E hr h => ?_)
  · obtain ⟨p, q, xs, m, r, rfl, hb, hq, hlx, m0, m1, r0, r1, hdx, k⟩ := h
    rfl
  · obtain ⟨p, q, xs, m, r, rfl, hb, hq, hlx, m0, m1, r0, r1, hdx, k⟩ := h
    refine ⟨_, (@pss_cons _ _ _ _ _ (@ps_set _ _ 2 _ _ _ _ sc__law_spoilt.nd rfl (by first | exact Or.inl rfl | exact Or.inr rfl) (@pe_callTy _ _ _ _ _ _ _ _ _ call_list_of (by rfl) T.b_list (by decide +kernel) (@pa_c _ _ _ _ _ (@pv _ 1 _ _ (by rfl) (by first | exact Or.inl rfl | exact Or.inr (Or.inl rfl) | exact Or.inr (Or.inr rfl)) (by decide) (by decide)) (@pa_nil _) (by rfl)) (by decide) (by decide) (by rfl) (by rfl)) (by rfl) (by first | exact .inl rfl | exact .inr rfl | assumption)) 
      (@pss_cons _ _ _ _ _ (@ps_set _ _ 3 _ _ _ _ sc__law_spoilt.nd rfl (by first | exact Or.inl rfl | exact Or.inr rfl) (@pe_fun _ _ _ _ _ _ _ _ _ _ _ c__law_thing hr (@pa_c _ _ _ _ _ (@pv _ 0 _ _ (by rfl) (by first | exact Or.inl rfl | exact Or.inr (Or.inl rfl) | exact Or.inr (Or.inr rfl)) (by decide) (by decide)) (@pa_nil _) (by rfl)) (by rfl) (by decide) (by decide) (by rfl) (by rfl)) (by rfl) (by first | exact .inl rfl | exact .inr rfl | assumption)) 
      (@pss_cons _ _ _ _ _ (@ps_set _ _ 4 _ _ _ _ sc__law_spoilt.nd rfl (by first | exact Or.inl rfl | exact Or.inr rfl) (@pe_fun _ _ _ _ _ _ _ _ _ _ _ c__law_take hr (@pa_c _ _ _ _ _ (@pv _ 0 _ _ (by rfl) (by first | exact Or.inl rfl | exact Or.inr (Or.inl rfl) | exact Or.inr (Or.inr rfl)) (by decide) (by decide)) (@pa_c _ _ _ _ _ (@pe_int _ _ _ _) (@pa_nil _) (by rfl)) (by rfl)) (by rfl) (by decide) (by decide) (by rfl) (by rfl)) (by rfl) (by first | exact .inl rfl | exact .inr rfl | assumption)) 
      (@pss_cons _ _ _ _ _ (@ps_if _ _ _ _ _ _ _ _ (@pt_cut _ _ _ (@PW.pt _ _ _ (@pw_or _ _ _ _ _ _ _ (@pt_cmpR _ _ _ _ _ _ _ _ op_eq (@pv _ 4 _ _ (by rfl) (by first | exact Or.inl rfl | exact Or.inr (Or.inl rfl) | exact Or.inr (Or.inr rfl)) (by decide) (by decide)) (@pe_int _ _ _ _) (nomark _)) (@pw_or1 _ _ _ _ (@pt_cmpR _ _ _ _ _ _ _ _ (op_eqSK (K := K) 8 hr rfl) (@pv _ 2 _ _ (by rfl) (by first | exact Or.inl rfl | exact Or.inr (Or.inl rfl) | exact Or.inr (Or.inr rfl)) (by decide) (by decide)) (@pe_lst _ _ _ _ (@pa_nil _)) (nomark _)))))) (@pss_one _ _ _ (@ps_ret _ _ _ _ (@pe_ix _ _ _ _ _ _ _ (ix_listK (K := K) rfl) (@pe_lst _ _ _ _ (@pa_c _ _ _ _ _ (@pv _ 3 _ _ (by rfl) (by first | exact Or.inl rfl | exact Or.inr (Or.inl rfl) | exact Or.inr (Or.inr rfl)) (by decide) (by decide)) (@pa_c _ _ _ _ _ (@pe_op _ _ _ _ _ _ _ _ op_cat (@pv _ 2 _ _ (by rfl) (by first | exact Or.inl rfl | exact Or.inr (Or.inl rfl) | exact Or.inr (Or.inr rfl)) (by decide) (by decide)) (@pe_lst _ _ _ _ (@pa_c _ _ _ _ _ (@pv _ 3 _ _ (by rfl) (by first | exact Or.inl rfl | exact Or.inr (Or.inl rfl) | exact Or.inr (Or.inr rfl)) (by decide) (by decide)) (@pa_nil _) (by rfl)))) (@pa_c _ _ _ _ _ (@pe_op _ _ _ _ _ _ _ _ op_cat (@pe_lst _ _ _ _ (@pa_c _ _ _ _ _ (@pv _ 3 _ _ (by rfl) (by first | exact Or.inl rfl | exact Or.inr (Or.inl rfl) | exact Or.inr (Or.inr rfl)) (by decide) (by decide)) (@pa_nil _) (by rfl))) (@pv _ 2 _ _ (by rfl) (by first | exact Or.inl rfl | exact Or.inr (Or.inl rfl) | exact Or.inr (Or.inr rfl)) (by decide) (by decide))) (@pa_c _ _ _ _ _ (@pe_disp _ _ _ _ _ (@pps_cons _ _ _ _ _ _ _ _ _ (@pe_str _ _ _ _) (@pe_int _ _ _ _) (@pps_nil _ _)) (by rfl) (by rfl) (fun z => by cases z) (by decide)) (@pa_nil _) (by rfl)) (by rfl)) (by rfl)) (by rfl))) (@pe_fun _ _ _ _ _ _ _ _ _ _ _ c__law_take hr (@pa_c _ _ _ _ _ (@pv _ 0 _ _ (by rfl) (by first | exact Or.inl rfl | exact Or.inr (Or.inl rfl) | exact Or.inr (Or.inr rfl)) (by decide) (by decide)) (@pa_c _ _ _ _ _ (@pe_int _ _ _ _) (@pa_nil _) (by rfl)) (by rfl)) (by rfl) (by decide) (by decide) (by rfl) (by rfl)) (fun _ _ => rfl)))) (@pss_nil _)) 
      (@pss_cons _ _ _ _ _ (@ps_set _ _ 5 _ _ _ _ sc__law_spoilt.nd rfl (by first | exact Or.inl rfl | exact Or.inr rfl) (@pe_fun _ _ _ _ _ _ _ _ _ _ _ c__law_take hr (@pa_c _ _ _ _ _ (@pv _ 0 _ _ (by rfl) (by first | exact Or.inl rfl | exact Or.inr (Or.inl rfl) | exact Or.inr (Or.inr rfl)) (by decide) (by decide)) (@pa_c _ _ _ _ _ (@pe_callB _ _ _ _ _ _ _ _ _ (call_lenK (K := K) rfl) (by rfl) T.b_len (by decide +kernel) (@pa_c _ _ _ _ _ (@pv _ 2 _ _ (by rfl) (by first | exact Or.inl rfl | exact Or.inr (Or.inl rfl) | exact Or.inr (Or.inr rfl)) (by decide) (by decide)) (@pa_nil _) (by rfl)) (by decide) (by decide) (by rfl) (by rfl)) (@pa_nil _) (by rfl)) (by rfl)) (by rfl) (by decide) (by decide) (by rfl) (by rfl)) (by rfl) (by first | exact .inl rfl | exact .inr rfl | assumption)) 
      (@pss_cons _ _ _ _ _ (@ps_set _ _ 6 _ _ _ _ sc__law_spoilt.nd rfl (by first | exact Or.inl rfl | exact Or.inr rfl) (@pe_ix _ _ _ _ _ _ _ (ix_listK (K := K) rfl) (@pv _ 2 _ _ (by rfl) (by first | exact Or.inl rfl | exact Or.inr (Or.inl rfl) | exact Or.inr (Or.inr rfl)) (by decide) (by decide)) (@pv _ 5 _ _ (by rfl) (by first | exact Or.inl rfl | exact Or.inr (Or.inl rfl) | exact Or.inr (Or.inr rfl)) (by decide) (by decide)) (fun _ _ => rfl)) (by rfl) (by first | exact .inl rfl | exact .inr rfl | assumption)) 
      (@pss_cons _ _ _ _ _ (@ps_if _ _ _ _ _ _ _ _ (@pt_cut _ _ _ (@PW.pt _ _ _ (@pw_or _ _ _ _ _ _ _ (@pt_not _ _ _ _ (@pt_val _ _ _ (@pe_callB _ _ _ _ _ _ _ _ _ (call_isinstK (K := K) rfl) (by rfl) T.b_isinstance (by decide +kernel) (@pa_c _ _ _ _ _ (@pv _ 6 _ _ (by rfl) (by first | exact Or.inl rfl | exact Or.inr (Or.inl rfl) | exact Or.inr (Or.inr rfl)) (by decide) (by decide)) (@pa_c _ _ _ _ _ (@pe_type _ _ "tuple" _ rfl T.b_tuple (by decide +kernel) (by decide) (by decide)) (@pa_nil _) (by rfl)) (by rfl)) (by decide) (by decide) (by rfl) (by rfl)) (by intro _; rfl))) (@pw_or1 _ _ _ _ (@pt_cmpR _ _ _ _ _ _ _ _ (op_eqSK (K := K) 8 hr rfl) (@pv _ 6 _ _ (by rfl) (by first | exact Or.inl rfl | exact Or.inr (Or.inl rfl) | exact Or.inr (Or.inr rfl)) (by decide) (by decide)) (@pe_tup _ _ _ _ _ (@pa_nil _)) (nomark _)))))) (@pss_one _ _ _ (@ps_ret _ _ _ _ (@pv _ 2 _ _ (by rfl) (by first | exact Or.inl rfl | exact Or.inr (Or.inl rfl) | exact Or.inr (Or.inr rfl)) (by decide) (by decide)))) (@pss_nil _)) 
      (@pss_cons _ _ _ _ _ (@ps_set _ _ 7 _ _ _ _ sc__law_spoilt.nd rfl (by first | exact Or.inl rfl | exact Or.inr rfl) (@pe_fun _ _ _ _ _ _ _ _ _ _ _ c__law_take hr (@pa_c _ _ _ _ _ (@pv _ 0 _ _ (by rfl) (by first | exact Or.inl rfl | exact Or.inr (Or.inl rfl) | exact Or.inr (Or.inr rfl)) (by decide) (by decide)) (@pa_c _ _ _ _ _ (@pe_callB _ _ _ _ _ _ _ _ _ (call_lenK (K := K) rfl) (by rfl) T.b_len (by decide +kernel) (@pa_c _ _ _ _ _ (@pv _ 6 _ _ (by rfl) (by first | exact Or.inl rfl | exact Or.inr (Or.inl rfl) | exact Or.inr (Or.inr rfl)) (by decide) (by decide)) (@pa_nil _) (by rfl)) (by decide) (by decide) (by rfl) (by rfl)) (@pa_nil _) (by rfl)) (by rfl)) (by rfl) (by decide) (by decide) (by rfl) (by rfl)) (by rfl) (by first | exact .inl rfl | exact .inr rfl | assumption)) 
      (@pss_cut _ _ _ _ _ (@ps_if _ _ _ _ _ _ _ _ (@pt_cmpR _ _ _ _ _ _ _ _ op_lt (@pv _ 4 _ _ (by rfl) (by first | exact Or.inl rfl | exact Or.inr (Or.inl rfl) | exact Or.inr (Or.inr rfl)) (by decide) (by decide)) (@pe_int _ _ _ _) (nomark _)) (@pss_one _ _ _ (@ps_asg _ _ _ _ _ _ (@pe_op _ _ _ _ _ _ _ _ op_catU (@pe_op _ _ _ _ _ _ _ _ op_catU (@pe_slice _ _ _ _ _ _ _ _ _ _ sl_tup (@pv _ 6 _ _ (by rfl) (by first | exact Or.inl rfl | exact Or.inr (Or.inl rfl) | exact Or.inr (Or.inr rfl)) (by decide) (by decide)) (@po_none _) (@po_some _ _ _ (@pv _ 7 _ _ (by rfl) (by first | exact Or.inl rfl | exact Or.inr (Or.inl rfl) | exact Or.inr (Or.inr rfl)) (by decide) (by decide)))) (@pe_tup _ _ _ _ _ (@pa_c _ _ _ _ _ (@pv _ 3 _ _ (by rfl) (by first | exact Or.inl rfl | exact Or.inr (Or.inl rfl) | exact Or.inr (Or.inr rfl)) (by decide) (by decide)) (@pa_nil _) (by rfl)))) (@pe_slice _ _ _ _ _ _ _ _ _ _ sl_tup (@pv _ 6 _ _ (by rfl) (by first | exact Or.inl rfl | exact Or.inr (Or.inl rfl) | exact Or.inr (Or.inr rfl)) (by decide) (by decide)) (@po_some _ _ _ (@pe_op _ _ _ _ _ _ _ _ op_add (@pv _ 7 _ _ (by rfl) (by first | exact Or.inl rfl | exact Or.inr (Or.inl rfl) | exact Or.inr (Or.inr rfl)) (by decide) (by decide)) (@pe_int _ _ _ _))) (@po_none _))) (@pg_sub _ _ _ _ _ _ _ (@pv _ 2 _ _ (by rfl) (by first | exact Or.inl rfl | exact Or.inr (Or.inl rfl) | exact Or.inr (Or.inr rfl)) (by decide) (by decide)) (@pv _ 5 _ _ (by rfl) (by first | exact Or.inl rfl | exact Or.inr (Or.inl rfl) | exact Or.inr (Or.inr rfl)) (by decide) (by decide)) set_list (by intro _; rfl)) (by rfl) (by rfl) (by rfl))) (@pss_one _ _ _ (@ps_if _ _ _ _ _ _ _ _ (@pt_cmpR _ _ _ _ _ _ _ _ op_lt (@pv _ 4 _ _ (by rfl) (by first | exact Or.inl rfl | exact Or.inr (Or.inl rfl) | exact Or.inr (Or.inr rfl)) (by decide) (by decide)) (@pe_int _ _ _ _) (nomark _)) (@pss_cons _ _ _ _ _ (@ps_set _ _ 8 _ _ _ _ sc__law_spoilt.nd rfl (by first | exact Or.inl rfl | exact Or.inr rfl) (@pe_ix _ _ _ _ _ _ _ (ix_listK (K := K) rfl) (@pe_lst _ _ _ _ (@pa_c _ _ _ _ _ (@pe_op _ _ _ _ _ _ _ _ op_sub (@pe_int _ _ _ _) (@pe_int _ _ _ _)) (@pa_c _ _ _ _ _ (@pe_int _ _ _ _) (@pa_c _ _ _ _ _ (@pe_int _ _ _ _) (@pa_c _ _ _ _ _ (@pe_int _ _ _ _) (@pa_c _ _ _ _ _ (@pe_int _ _ _ _) (@pa_c _ _ _ _ _ (@pe_int _ _ _ _) (@pa_c _ _ _ _ _ (@pe_int _ _ _ _) (@pa_c _ _ _ _ _ (@pe_int _ _ _ _) (@pa_c _ _ _ _ _ (@pe_op _ _ _ _ _ _ _ _ op_pow (@pe_int _ _ _ _) (@pe_int _ _ _ _)) (@pa_nil _) (by rfl)) (by rfl)) (by rfl)) (by rfl)) (by rfl)) (by rfl)) (by rfl)) (by rfl)) (by rfl))) (@pe_fun _ _ _ _ _ _ _ _ _ _ _ c__law_take hr (@pa_c _ _ _ _ _ (@pv _ 0 _ _ (by rfl) (by first | exact Or.inl rfl | exact Or.inr (Or.inl rfl) | exact Or.inr (Or.inr rfl)) (by decide) (by decide)) (@pa_c _ _ _ _ _ (@pe_int _ _ _ _) (@pa_nil _) (by rfl)) (by rfl)) (by rfl) (by decide) (by decide) (by rfl) (by rfl)) (fun _ _ => rfl)) (by rfl) (by first | exact .inl rfl | exact .inr rfl | assumption)) 
      (@pss_one _ _ _ (@ps_asg _ _ _ _ _ _ (@pe_op _ _ _ _ _ _ _ _ op_catU (@pe_op _ _ _ _ _ _ _ _ op_catU (@pe_slice _ _ _ _ _ _ _ _ _ _ sl_tup (@pv _ 6 _ _ (by rfl) (by first | exact Or.inl rfl | exact Or.inr (Or.inl rfl) | exact Or.inr (Or.inr rfl)) (by decide) (by decide)) (@po_none _) (@po_some _ _ _ (@pv _ 7 _ _ (by rfl) (by first | exact Or.inl rfl | exact Or.inr (Or.inl rfl) | exact Or.inr (Or.inr rfl)) (by decide) (by decide)))) (@pe_tup _ _ _ _ _ (@pa_c _ _ _ _ _ (@pv _ 8 _ _ (by rfl) (by first | exact Or.inl rfl | exact Or.inr (Or.inl rfl) | exact Or.inr (Or.inr rfl)) (by decide) (by decide)) (@pa_nil _) (by rfl)))) (@pe_slice _ _ _ _ _ _ _ _ _ _ sl_tup (@pv _ 6 _ _ (by rfl) (by first | exact Or.inl rfl | exact Or.inr (Or.inl rfl) | exact Or.inr (Or.inr rfl)) (by decide) (by decide)) (@po_some _ _ _ (@pe_op _ _ _ _ _ _ _ _ op_add (@pv _ 7 _ _ (by rfl) (by first | exact Or.inl rfl | exact Or.inr (Or.inl rfl) | exact Or.inr (Or.inr rfl)) (by decide) (by decide)) (@pe_int _ _ _ _))) (@po_none _))) (@pg_sub _ _ _ _ _ _ _ (@pv _ 2 _ _ (by rfl) (by first | exact Or.inl rfl | exact Or.inr (Or.inl rfl) | exact Or.inr (Or.inr rfl)) (by decide) (by decide)) (@pv _ 5 _ _ (by rfl) (by first | exact Or.inl rfl | exact Or.inr (Or.inl rfl) | exact Or.inr (Or.inr rfl)) (by decide) (by decide)) set_list (by intro _; rfl)) (by rfl) (by rfl) (by rfl)))) (@pss_one _ _ _ (@ps_if _ _ _ _ _ _ _ _ (@pt_cmpR _ _ _ _ _ _ _ _ op_eq (@pv _ 4 _ _ (by rfl) (by first | exact Or.inl rfl | exact Or.inr (Or.inl rfl) | exact Or.inr (Or.inr rfl)) (by decide) (by decide)) (@pe_int _ _ _ _) (nomark _)) (@pss_one _ _ _ (@ps_asg _ _ _ _ _ _ (@pe_ix _ _ _ _ _ _ _ (ix_listK (K := K) rfl) (@pe_lst _ _ _ _ (@pa_c _ _ _ _ _ (@pe_slice _ _ _ _ _ _ _ _ _ _ sl_tupU (@pv _ 6 _ _ (by rfl) (by first | exact Or.inl rfl | exact Or.inr (Or.inl rfl) | exact Or.inr (Or.inr rfl)) (by decide) (by decide)) (@po_none _) (@po_some _ _ _ (@pe_int _ _ _ _))) (@pa_c _ _ _ _ _ (@pe_op _ _ _ _ _ _ _ _ op_catU (@pv _ 6 _ _ (by rfl) (by first | exact Or.inl rfl | exact Or.inr (Or.inl rfl) | exact Or.inr (Or.inr rfl)) (by decide) (by decide)) (@pe_tup _ _ _ _ _ (@pa_c _ _ _ _ _ (@pe_int _ _ _ _) (@pa_nil _) (by rfl)))) (@pa_c _ _ _ _ _ (@pe_callTy _ _ _ _ _ _ _ _ _ call_list_of (by rfl) T.b_list (by decide +kernel) (@pa_c _ _ _ _ _ (@pv _ 6 _ _ (by rfl) (by first | exact Or.inl rfl | exact Or.inr (Or.inl rfl) | exact Or.inr (Or.inr rfl)) (by decide) (by decide)) (@pa_nil _) (by rfl)) (by decide) (by decide) (by rfl) (by rfl)) (@pa_c _ _ _ _ _ (@pe_sliceR _ _ _ _ _ _ _ (@pv _ 6 _ _ (by rfl) (by first | exact Or.inl rfl | exact Or.inr (Or.inl rfl) | exact Or.inr (Or.inr rfl)) (by decide) (by decide)) (@pe_un _ _ _ _ _ _ un_neg (@pe_int _ _ _ _))) (@pa_nil _) (by rfl)) (by rfl)) (by rfl)) (by rfl))) (@pe_fun _ _ _ _ _ _ _ _ _ _ _ c__law_take hr (@pa_c _ _ _ _ _ (@pv _ 0 _ _ (by rfl) (by first | exact Or.inl rfl | exact Or.inr (Or.inl rfl) | exact Or.inr (Or.inr rfl)) (by decide) (by decide)) (@pa_c _ _ _ _ _ (@pe_int _ _ _ _) (@pa_nil _) (by rfl)) (by rfl)) (by rfl) (by decide) (by decide) (by rfl) (by rfl)) (fun _ _ => rfl)) (@pg_sub _ _ _ _ _ _ _ (@pv _ 2 _ _ (by rfl) (by first | exact Or.inl rfl | exact Or.inr (Or.inl rfl) | exact Or.inr (Or.inr rfl)) (by decide) (by decide)) (@pv _ 5 _ _ (by rfl) (by first | exact Or.inl rfl | exact Or.inr (Or.inl rfl) | exact Or.inr (Or.inr rfl)) (by decide) (by decide)) set_list (by intro _; rfl)) (by rfl) (by rfl) (by rfl))) (@pss_one _ _ _ (@ps_if _ _ _ _ _ _ _ _ (@pt_cmpR _ _ _ _ _ _ _ _ op_eq (@pv _ 4 _ _ (by rfl) (by first | exact Or.inl rfl | exact Or.inr (Or.inl rfl) | exact Or.inr (Or.inr rfl)) (by decide) (by decide)) (@pe_int _ _ _ _) (nomark _)) (@pss_one _ _ _ (@ps_expr _ _ _ _ (@pe_bm _ _ _ _ _ _ _ _ _ _ _ _ PySem.F.plainAttrs_list PySem.F.slot_list_append PySem.F.type_list_append mt_append (@pv _ 2 _ _ (by rfl) (by first | exact Or.inl rfl | exact Or.inr (Or.inl rfl) | exact Or.inr (Or.inr rfl)) (by decide) (by decide)) (@pa_c _ _ _ _ _ (@pe_ix _ _ _ _ _ _ _ (ix_listK (K := K) rfl) (@pv _ 2 _ _ (by rfl) (by first | exact Or.inl rfl | exact Or.inr (Or.inl rfl) | exact Or.inr (Or.inr rfl)) (by decide) (by decide)) (@pv _ 5 _ _ (by rfl) (by first | exact Or.inl rfl | exact Or.inr (Or.inl rfl) | exact Or.inr (Or.inr rfl)) (by decide) (by decide)) (fun _ _ => rfl)) (@pa_nil _) (by rfl)) (by rfl) (by rfl) (by rfl) (by rfl) (by rfl)) (by rfl))) (@pss_one _ _ _ (@ps_if _ _ _ _ _ _ _ _ (@pt_cmpR _ _ _ _ _ _ _ _ op_eq (@pv _ 4 _ _ (by rfl) (by first | exact Or.inl rfl | exact Or.inr (Or.inl rfl) | exact Or.inr (Or.inr rfl)) (by decide) (by decide)) (@pe_int _ _ _ _) (nomark _)) (@pss_cons _ _ _ _ _ (@ps_set _ _ 9 _ _ _ _ sc__law_spoilt.nd rfl (by first | exact Or.inl rfl | exact Or.inr rfl) (@pe_ix _ _ _ _ _ _ _ (ix_listK (K := K) rfl) (@pv _ 2 _ _ (by rfl) (by first | exact Or.inl rfl | exact Or.inr (Or.inl rfl) | exact Or.inr (Or.inr rfl)) (by decide) (by decide)) (@pe_fun _ _ _ _ _ _ _ _ _ _ _ c__law_take hr (@pa_c _ _ _ _ _ (@pv _ 0 _ _ (by rfl) (by first | exact Or.inl rfl | exact Or.inr (Or.inl rfl) | exact Or.inr (Or.inr rfl)) (by decide) (by decide)) (@pa_c _ _ _ _ _ (@pe_callB _ _ _ _ _ _ _ _ _ (call_lenK (K := K) rfl) (by rfl) T.b_len (by decide +kernel) (@pa_c _ _ _ _ _ (@pv _ 2 _ _ (by rfl) (by first | exact Or.inl rfl | exact Or.inr (Or.inl rfl) | exact Or.inr (Or.inr rfl)) (by decide) (by decide)) (@pa_nil _) (by rfl)) (by decide) (by decide) (by rfl) (by rfl)) (@pa_nil _) (by rfl)) (by rfl)) (by rfl) (by decide) (by decide) (by rfl) (by rfl)) (fun _ _ => rfl)) (by rfl) (by first | exact .inl rfl | exact .inr rfl | assumption)) 
      (@pss_one _ _ _ (@ps_if _ _ _ _ _ _ _ _ (@PW.pt _ _ _ (@pw_and _ _ _ _ _ _ _ (@pt_val _ _ _ (@pe_callB _ _ _ _ _ _ _ _ _ (call_isinstK (K := K) rfl) (by rfl) T.b_isinstance (by decide +kernel) (@pa_c _ _ _ _ _ (@pv _ 9 _ _ (by rfl) (by first | exact Or.inl rfl | exact Or.inr (Or.inl rfl) | exact Or.inr (Or.inr rfl)) (by decide) (by decide)) (@pa_c _ _ _ _ _ (@pe_type _ _ "tuple" _ rfl T.b_tuple (by decide +kernel) (by decide) (by decide)) (@pa_nil _) (by rfl)) (by rfl)) (by decide) (by decide) (by rfl) (by rfl)) (by intro _; rfl)) (@pw_and1 _ _ _ _ (@pt_cmpR _ _ _ _ _ _ _ _ (op_neSK (K := K) 8 hr rfl) (@pv _ 9 _ _ (by rfl) (by first | exact Or.inl rfl | exact Or.inr (Or.inl rfl) | exact Or.inr (Or.inr rfl)) (by decide) (by decide)) (@pe_tup _ _ _ _ _ (@pa_nil _)) (nomark _))))) (@pss_one _ _ _ (@ps_asg _ _ _ _ _ _ (@pe_op _ _ _ _ _ _ _ _ op_catU (@pe_slice _ _ _ _ _ _ _ _ _ _ sl_tupU (@pv _ 9 _ _ (by rfl) (by first | exact Or.inl rfl | exact Or.inr (Or.inl rfl) | exact Or.inr (Or.inr rfl)) (by decide) (by decide)) (@po_none _) (@po_some _ _ _ (@pe_int _ _ _ _))) (@pe_slice _ _ _ _ _ _ _ _ _ _ sl_tup (@pv _ 6 _ _ (by rfl) (by first | exact Or.inl rfl | exact Or.inr (Or.inl rfl) | exact Or.inr (Or.inr rfl)) (by decide) (by decide)) (@po_some _ _ _ (@pe_int _ _ _ _)) (@po_none _))) (@pg_sub _ _ _ _ _ _ _ (@pv _ 2 _ _ (by rfl) (by first | exact Or.inl rfl | exact Or.inr (Or.inl rfl) | exact Or.inr (Or.inr rfl)) (by decide) (by decide)) (@pv _ 5 _ _ (by rfl) (by first | exact Or.inl rfl | exact Or.inr (Or.inl rfl) | exact Or.inr (Or.inr rfl)) (by decide) (by decide)) set_list (by intro _; rfl)) (by rfl) (by rfl) (by rfl))) (@pss_nil _)))) (@pss_one _ _ _ (@ps_set _ _ 2 _ _ _ _ sc__law_spoilt.nd rfl (by first | exact Or.inl rfl | exact Or.inr rfl) (@pe_slice _ _ _ _ _ _ _ _ _ _ sl_list (@pe_op _ _ _ _ _ _ _ _ op_rep (@pv _ 2 _ _ (by rfl) (by first | exact Or.inl rfl | exact Or.inr (Or.inl rfl) | exact Or.inr (Or.inr rfl)) (by decide) (by decide)) (@pe_int _ _ _ _)) (@po_none _) (@po_some _ _ _ (@pe_ix _ _ _ _ _ _ _ (ix_listK (K := K) rfl) (@pe_lst _ _ _ _ (@pa_c _ _ _ _ _ (@pe_int _ _ _ _) (@pa_c _ _ _ _ _ (@pe_int _ _ _ _) (@pa_c _ _ _ _ _ (@pe_int _ _ _ _) (@pa_nil _) (by rfl)) (by rfl)) (by rfl))) (@pe_fun _ _ _ _ _ _ _ _ _ _ _ c__law_take hr (@pa_c _ _ _ _ _ (@pv _ 0 _ _ (by rfl) (by first | exact Or.inl rfl | exact Or.inr (Or.inl rfl) | exact Or.inr (Or.inr rfl)) (by decide) (by decide)) (@pa_c _ _ _ _ _ (@pe_int _ _ _ _) (@pa_nil _) (by rfl)) (by rfl)) (by rfl) (by decide) (by decide) (by rfl) (by rfl)) (fun _ _ => rfl)))) (by rfl) (by first | exact .inl rfl | exact .inr rfl | assumption)))))))))))) 
      (@pss_one _ _ _ (@ps_ret _ _ _ _ (@pv _ 2 _ _ (by rfl) (by first | exact Or.inl rfl | exact Or.inr (Or.inl rfl) | exact Or.inr (Or.inr rfl)) (by decide) (by decide))))))))))))), ?_⟩
    refine ⟨_, rfl, q, _, rfl, .inl (SqL.of hq), fun fp nf => ?_⟩
    generalize e1 : upd H fp _ = H1
    have s1 := upd_sm e1 nf
    have fpp : fp ≠ p := hb.ne nf
    have b1 := hb.same s1
    refine ⟨_, rfl, p, rfl, b1, fun odd H2 sb2 b2 d2 => ?_⟩
    have c : Sp4 p fp xs odd r H H2 := ⟨s1.b.trans sb2, b2, sb2 _ _ (upd_at e1) fpp, fun y hy => (((hdx y hy).imp fun a o n e => ⟨n, ne_of_none e nf⟩).same s1).sameB sb2 fun a h => h.1, d2.imp fun a o n e => ⟨b1.ne n, (ne_of_none (upd_at e1) n).symm⟩⟩
    refine ⟨_, rfl, p, 12, rfl, c.bx, by decide, by decide, fun way H3 w0 w1 sb3 b3 => ?_⟩
    have c := c.tk sb3 b3 fpp
    refine ⟨fun b H' => Sp4 p fp xs odd r H H' ∧ (b = false → xs ≠ []), ?_, ?_⟩
    · refine ⟨_, rfl, rfl, _, rfl, ?_⟩
      refine ite2 (fun _ => ⟨c, fun z => nomatch z⟩) fun _ => ?_
      refine ⟨_, rfl, (by show 0 ≤ sizeLine; decide), fun e ne => ?_⟩
      generalize e4 : upd H3 e _ = H4
      have s4 := upd_sm e4 ne
      have c := c.nw s4
      cases xs with
      | nil => exact ⟨fp, e, true, rfl, rfl, .lst (SqL.of c.hf) (SqL.of (upd_at e4)) .nil, _, rfl, c, fun z => nomatch z⟩
      | cons y ys => exact ⟨fp, e, false, rfl, rfl, .lstN (SqL.of c.hf) (SqL.of (upd_at e4)) (by simp), _, rfl, c, fun _ z => nomatch z⟩
    rintro b H5 ⟨c, hne⟩
    cases b with
    | true =>
      refine iteT ?_
      refine ⟨_, rfl, _, rfl, _, rfl, (by show 1 ≤ sizeLine; decide), fun l1 n1 => ?_⟩
      generalize e6 : upd H5 l1 _ = H6
      have s6 := upd_sm e6 n1
      have c := c.nw s6
      refine ⟨fp, l1, _, _, rfl, rfl, c.hf, upd_at e6, small_line (by simp; omega), fun c1 nc1 => ?_⟩
      have c1p := c.bx.ne nc1
      generalize e7 : upd H6 c1 _ = H7
      have s7 := upd_sm e7 nc1
      have c := c.nw s7
      refine ⟨_, rfl, (by show 1 ≤ sizeLine; decide), fun l2 n2 => ?_⟩
      generalize e8 : upd H7 l2 _ = H8
      have s8 := upd_sm e8 n2
      have c := c.nw s8
      refine ⟨_, rfl, l2, fp, _, _, rfl, rfl, upd_at e8, c.hf, small_line (by simp; omega), fun c2 nc2 => ?_⟩
      have c2p := c.bx.ne nc2
      generalize e9 : upd H8 c2 _ = H9
      have s9 := upd_sm e9 nc2
      have c := c.nw s9
      intro dq ndq
      have dqp := c.bx.ne ndq
      refine ⟨upd_same, [(Sum.inr "a", .int 1)], rfl, (by decide), ?_⟩
      generalize e10 : upd (upd H9 dq _) dq _ = H10
      have s10 := upd_sm2 e10 ndq
      have c := c.nw s10
      refine ⟨(by show 4 ≤ sizeLine; decide), fun l4 n4 => ?_⟩
      have l4p := c.bx.ne n4
      generalize e11 : upd H10 l4 _ = H11
      have s11 := upd_sm e11 n4
      have c := c.nw s11
      refine ⟨_, rfl, p, 4, rfl, c.bx, by decide, by decide, fun z H12 z0 z1 sb12 b12 => ?_⟩
      have c := c.tk sb12 b12 fpp
      have hc1 := sb12 _ _ (s11 _ _ (s10 _ _ (s9 _ _ (s8 _ _ (upd_at e7))))) c1p
      have hc2 := sb12 _ _ (s11 _ _ (s10 _ _ (upd_at e9))) c2p
      have hdq := sb12 _ _ (s11 _ _ (upd_at e10)) dqp
      have dr : ∀ y ∈ xs, Dv (· ≠ p) H12 [r + 1, 4, 4] y := fun y hy => (N4.dv (c.dx y hy)).le le_row
      have do_ : Dv (· ≠ p) H12 [r + 1, 4, 4] odd := (N4.dv c.dd).le (le_odr r0)
      obtain ⟨v, hat, hv⟩ := pick (P := Dv (· ≠ p) H12 [m + 1, r + 1, 4, 4]) (n := 4) (upd_at e11) rfl z0 z1
        (all_cons ((N4.dv c.dd).le (le_odd m0 r0)) (all_cons (.lst c1p hc1 (by simp; omega) (all_app dr (all_cons do_ all_nil))) (all_cons (.lst c2p hc2 (by simp; omega) (all_cons do_ dr))
          (all_cons (.dct dqp hdq (by decide) (all_cons ⟨⟨by decide +kernel, by decide +kernel⟩, by show (1 : Int).natAbs < 10 ^ 40; decide⟩ all_nil)) all_nil))))
      exact ⟨l4, _, _, v, rfl, rfl, SqL.of (sb12 _ _ (upd_at e11) l4p), hat, k v H12 c.sb c.bx hv⟩
    | false =>
      refine iteF ?_
      have hne := hne rfl
      have hpos := List.length_pos_iff.mpr hne
      have fin : ∀ (H' : Hp) (zs : List V) (fp' : Addr), SameB p H H' → Bx H' p → fp' ≠ p → H' fp' = some (.lst zs) → zs.length ≤ m + 1 → (∀ y ∈ zs, Dv (· ≠ p) H' [r + 1, 4, 4] y) → Q (.ref fp') H' := fun H' zs fp' sb bx n h hl hi => k _ H' sb bx (.lst n h hl hi)
      refine ⟨_, rfl, _, rfl, _, _, rfl, .inl ⟨_, SqL.of c.hf, rfl⟩, p, _, rfl, c.bx, by omega, by omega, fun at_ H6 a0 a1 sb6 b6 => ?_⟩
      have c := c.tk sb6 b6 fpp
      have hj : at_.toNat < xs.length := by omega
      refine ⟨_, rfl, _, rfl, fp, _, _, _, rfl, rfl, SqL.of c.hf, at_int a0 hj, ?_⟩
      have hrm : xs[at_.toNat] ∈ xs := List.getElem_mem hj
      generalize xs[at_.toNat] = row at hrm
      refine ⟨fun b H' => Sp4 p fp xs odd r H H' ∧ (b = false → ∃ ra ys, row = .ref ra ∧ H' ra = some (.tup ys) ∧ ys ≠ []), ?_, ?_⟩
      · obtain ⟨Ty, ty⟩ := (c.dx row hrm).ty (K := K)
        refine ⟨_, rfl, _, _, _, _, rfl, ty, kit_tup ty, _, rfl, ?_⟩
        cases ei : itemsOf H6 row with
        | none => exact iteT ⟨c, fun z => nomatch z⟩
        | some ys =>
          obtain ⟨ra, rfl, hra⟩ := items_at ei
          refine iteF ?_
          refine ⟨_, rfl, (by show 0 ≤ sizeLine; decide), fun e ne => ?_⟩
          generalize e7 : upd H6 e _ = H7
          have s7 := upd_sm e7 ne
          have c := c.nw s7
          have hra := s7 _ _ hra
          cases ys with
          | nil => exact ⟨ra, e, true, rfl, rfl, .tup (SqT.of hra) (SqT.of (upd_at e7)) .nil, _, rfl, c, fun z => nomatch z⟩
          | cons y ys => exact ⟨ra, e, false, rfl, rfl, ⟨y :: ys, [], .inr (.inr ⟨by simp, SqT.of hra, SqT.of (upd_at e7), rfl, [], fun j x y _ h => by simp at h⟩)⟩, _, rfl, c, fun _ => ⟨ra, _, rfl, hra, by simp⟩⟩
      rintro b H7 ⟨c, hrow⟩
      cases b with
      | true => exact iteT ⟨_, rfl, fin H7 xs fp c.sb c.bx fpp c.hf (by omega) fun y hy => (N4.dv (c.dx y hy)).le le_row⟩
      | false =>
        refine iteF ?_
        obtain ⟨ra, ys, rfl, hra, hys⟩ := hrow rfl
        have hyl := List.length_pos_iff.mpr hys
        obtain ⟨rn, hyr, hyi⟩ := (c.dx _ hrm).items (.inr hra)
        refine ⟨_, rfl, _, rfl, _, _, rfl, .inr ⟨_, SqT.of hra, rfl⟩, p, _, rfl, c.bx, by omega, by omega, fun pl H8 p0 p1 sb8 b8 => ?_⟩
        have c := c.tk sb8 b8 fpp
        have hra := sb8 _ _ hra rn.1
        have hyi : ∀ y ∈ ys, Dv (N4 p fp) H8 [4, 4] y := fun y hy => (hyi y hy).sameB sb8 fun a h => h.1
        refine ⟨fun σ' H' => ∃ fp' zs a8 a9, σ' = [some (.ref p), some (.ref q), some (.ref fp'), some odd, some (.int way), some (.int at_), some (.ref ra), some (.int pl), a8, a9] ∧ SameB p H H' ∧ Bx H' p ∧ fp' ≠ p ∧ H' fp' = some (.lst zs) ∧ zs.length ≤ m + 1 ∧ ∀ y ∈ zs, Dv (· ≠ p) H' [r + 1, 4, 4] y, ?_, ?_⟩
        · -- a row exchanged
          have put : ∀ (v : V) (H' : Hp), Sp4 p fp xs odd r H H' → Dv (N4 p fp) H' [r + 1, 4, 4] v → SameB p H (upd H' fp (.lst (xs.set at_.toNat v))) ∧ Bx (upd H' fp (.lst (xs.set at_.toNat v))) p ∧ fp ≠ p ∧ upd H' fp (.lst (xs.set at_.toNat v)) fp = some (.lst (xs.set at_.toNat v)) ∧ (xs.set at_.toNat v).length ≤ m + 1 ∧
              ∀ y ∈ xs.set at_.toNat v, Dv (· ≠ p) (upd H' fp (.lst (xs.set at_.toNat v))) [r + 1, 4, 4] y := by
            intro v H' c dv
            refine ⟨fun b o e nb => ?_, c.bx.upd fpp, fpp, upd_same, by rw [List.length_set]; omega, fun y hy => ?_⟩
            · rw [upd_ne (ne_of_none e nf)]
              exact c.sb _ _ e nb
            · have d : Dv (N4 p fp) H' [r + 1, 4, 4] y := by
                rcases List.mem_or_eq_of_mem_set hy with h | h
                · exact (c.dx y h).le le_row
                · exact h ▸ dv
              exact N4.dv (d.sameB sameB_upd fun a h => h.2)
          refine ⟨_, rfl, _, _, rfl, rfl, _, rfl, ?_⟩
          refine ite2 (fun _ => ?_) fun _ => ?_
          · refine ⟨_, rfl, _, rfl, _, rfl, sl_to hra hyi p0 (by omega) (fun a h => c.fr h) fun v1 H9 s9 t1 => ?_⟩
            have c := c.nw s9
            refine ⟨_, rfl, (by show 1 ≤ sizeLine; decide), fun o1 no1 => ?_⟩
            have t2 := one_tv no1 (fun a h => c.fr h) c.dd
            have s10 := same_new (o := .tup [odd]) no1
            have c := c.nw s10
            refine cat_tv (t1.same s10) t2 (by omega) (fun a h => c.fr h) fun v2 H11 s11 t3 => ?_
            have c := c.nw s11
            have sA := (s9.trans s10).trans s11
            refine ⟨_, rfl, _, rfl, _, _, rfl, rfl, _, rfl, ?_⟩
            dsimp only [tNoPart]
            refine sl_from (pl := pl + 1) (sA _ _ hra) (fun y hy => (hyi y hy).same sA) (by omega) hys (fun a h => c.fr h) fun v3 H12 s12 t4 => ?_
            have c := c.nw s12
            refine cat_tv (t3.same s12) t4 (by omega) (fun a h => c.fr h) fun v4 H13 s13 t5 => ?_
            have c := c.nw s13
            refine ⟨_, rfl, _, rfl, fp, xs, at_, at_.toNat, rfl, rfl, c.hf, ixN_in a0 (by omega), ?_⟩
            exact ⟨fp, _, _, _, rfl, put v4 H13 c (t5.dv (by omega))⟩
          refine ⟨_, rfl, _, _, rfl, rfl, _, rfl, ?_⟩
          refine ite2 (fun _ => ?_) fun _ => ?_
          · -- a number
            refine ⟨0, 1, rfl, rfl, 10, 20, rfl, rfl, ⟨by decide, by decide, by decide⟩, (by show 9 ≤ sizeLine; decide), fun ln nln => ?_⟩
            have lnp := c.bx.ne nln
            generalize e9 : upd H8 ln _ = H9
            have s9 := upd_sm e9 nln
            have c := c.nw s9
            refine ⟨_, rfl, p, 9, rfl, c.bx, by decide, by decide, fun z H10 z0 z1 sb10 b10 => ?_⟩
            have c := c.tk sb10 b10 fpp
            have hra := sb10 _ _ (s9 _ _ hra) rn.1
            have hyi : ∀ y ∈ ys, Dv (N4 p fp) H10 [4, 4] y := fun y hy => ((hyi y hy).same s9).sameB sb10 fun a h => h.1
            obtain ⟨v, hat, nu, rfl, hnu⟩ := pick (P := fun v => ∃ t : Int, v = .int t ∧ t.natAbs < 10 ^ 40) (n := 9) (upd_at e9) rfl z0 z1
              (by repeat (first | exact all_nil | refine all_cons ⟨_, rfl, by decide⟩ ?_))
            refine ⟨ln, _, _, _, rfl, rfl, SqL.of (sb10 _ _ (upd_at e9) lnp), hat, ?_⟩
            refine ⟨_, rfl, _, rfl, _, rfl, sl_to hra hyi p0 (by omega) (fun a h => c.fr h) fun v1 H9 s9 t1 => ?_⟩
            have c := c.nw s9
            refine ⟨_, rfl, (by show 1 ≤ sizeLine; decide), fun o1 no1 => ?_⟩
            have t2 := one_tv no1 (fun a h => c.fr h) (.int hnu)
            have s10 := same_new (o := .tup [.int nu]) no1
            have c := c.nw s10
            refine cat_tv (t1.same s10) t2 (by omega) (fun a h => c.fr h) fun v2 H11 s11 t3 => ?_
            have c := c.nw s11
            have sA := (s9.trans s10).trans s11
            refine ⟨_, rfl, _, rfl, _, _, rfl, rfl, _, rfl, ?_⟩
            dsimp only [tNoPart]
            refine sl_from (pl := pl + 1) (sA _ _ hra) (fun y hy => (hyi y hy).same sA) (by omega) hys (fun a h => c.fr h) fun v3 H12 s12 t4 => ?_
            have c := c.nw s12
            refine cat_tv (t3.same s12) t4 (by omega) (fun a h => c.fr h) fun v4 H13 s13 t5 => ?_
            have c := c.nw s13
            refine ⟨_, rfl, _, rfl, fp, xs, at_, at_.toNat, rfl, rfl, c.hf, ixN_in a0 (by omega), ?_⟩
            exact ⟨fp, _, _, _, rfl, put v4 H13 c (t5.dv (by omega))⟩
          refine ⟨_, rfl, rfl, _, rfl, ?_⟩
          refine ite2 (fun _ => ?_) fun _ => ?_
          · -- a row too short, too long, a list, turned about
            have tr : Tv (N4 p fp) H8 r (.ref ra) := ⟨ra, ys, rfl, rn, hra, hyr, hyi⟩
            refine ⟨_, rfl, _, rfl, sl_tv tr (fun a h => c.fr h) fun v1 H9 s9 t1 => ?_⟩
            have c := c.nw s9
            refine ⟨_, rfl, (by show 1 ≤ sizeLine; decide), fun o1 no1 => ?_⟩
            have t2 := one_tv (v := .int 0) no1 (fun a h => c.fr h) (.int (by decide))
            have s10 := same_new (o := .tup [.int 0]) no1
            have c := c.nw s10
            refine cat_tv ((tr.same s9).same s10) t2 (by omega) (fun a h => c.fr h) fun v2 H11 s11 t3 => ?_
            have c := c.nw s11
            have sA := (s9.trans s10).trans s11
            have hra := sA _ _ hra
            have hyi : ∀ y ∈ ys, Dv (N4 p fp) H11 [4, 4] y := fun y hy => (hyi y hy).same sA
            refine ⟨_, rfl, ra, _, rfl, .inr (SqT.of hra), fun l1 nl1 => ?_⟩
            have f1 := c.fr nl1
            generalize e12 : upd H11 l1 _ = H12
            have s12 := upd_sm e12 nl1
            have c := c.nw s12
            have hra := s12 _ _ hra
            have hyi : ∀ y ∈ ys, Dv (N4 p fp) H12 [4, 4] y := fun y hy => (hyi y hy).same s12
            refine ⟨_, rfl, _, rfl, ra, ys, rfl, rfl, SqT.of hra, fun p2 np2 => ?_⟩
            have f2 := c.fr np2
            generalize e13 : upd H12 p2 _ = H13
            have s13 := upd_sm e13 np2
            have c := c.nw s13
            have hyi : ∀ y ∈ ys, Dv (N4 p fp) H13 [4, 4] y := fun y hy => (hyi y hy).same s13
            refine ⟨(by show 4 ≤ sizeLine; decide), fun l4 n4 => ?_⟩
            have l4p := c.bx.ne n4
            generalize e14 : upd H13 l4 _ = H14
            have s14 := upd_sm e14 n4
            have c := c.nw s14
            refine ⟨_, rfl, p, 4, rfl, c.bx, by decide, by decide, fun z H15 z0 z1 sb15 b15 => ?_⟩
            have c := c.tk sb15 b15 fpp
            have up : ∀ {v : V}, Dv (N4 p fp) H13 [r + 1, 4, 4] v → Dv (N4 p fp) H15 [r + 1, 4, 4] v := fun d => (d.same s14).sameB sb15 fun a h => h.1
            obtain ⟨v, hat, hv⟩ := pick (P := Dv (N4 p fp) H15 [r + 1, 4, 4]) (n := 4) (upd_at e14) rfl z0 z1
              (all_cons (up ((((((t1.same s10).same s11).same s12).same s13)).dv (by omega))) (all_cons (up (((t3.same s12).same s13).dv (by omega)))
                (all_cons (up (.lst f1 (s13 _ _ (upd_at e12)) (by omega) hyi)) (all_cons (up (.tup f2 (upd_at e13) (by rw [List.length_reverse]; omega) fun y hy => hyi y (List.mem_reverse.mp hy))) all_nil))))
            refine ⟨l4, _, _, v, rfl, rfl, SqL.of (sb15 _ _ (upd_at e14) l4p), hat, ?_⟩
            refine ⟨_, rfl, _, rfl, fp, xs, at_, at_.toNat, rfl, rfl, c.hf, ixN_in a0 (by omega), ?_⟩
            exact ⟨fp, _, _, _, rfl, put v H15 c hv⟩
          refine ⟨_, rfl, rfl, _, rfl, ?_⟩
          refine ite2 (fun _ => ?_) fun _ => ?_
          · -- a row twice
            refine ⟨_, rfl, .inl ⟨rfl, _, SqL.of c.hf⟩, _, rfl, _, rfl, fp, _, _, _, rfl, rfl, SqL.of c.hf, at_int a0 hj, fp, _, _, rfl, rfl, c.hf, small1000 (by omega), ?_⟩
            refine ⟨fp, _, _, _, rfl, fun b o e nb => ?_, c.bx.upd fpp, fpp, upd_same, by simp; omega, fun y hy => ?_⟩
            · rw [upd_ne (ne_of_none e nf)]
              exact c.sb _ _ e nb
            · have hy' : y ∈ xs := by
                rcases List.mem_append.mp hy with h | h
                · exact h
                · rw [List.mem_singleton.mp h]
                  exact List.getElem_mem hj
              exact (N4.dv ((c.dx y hy').sameB sameB_upd fun a h => h.2)).le le_row
          refine ⟨_, rfl, rfl, _, rfl, ?_⟩
          refine ite2 (fun _ => ?_) fun _ => ?_
          · -- a name of another row
            refine ⟨_, rfl, _, rfl, _, rfl, _, _, rfl, .inl ⟨_, SqL.of c.hf, rfl⟩, p, _, rfl, c.bx, by omega, by omega, fun z H9 z0 z1 sb9 b9 => ?_⟩
            have c := c.tk sb9 b9 fpp
            have hra := sb9 _ _ hra rn.1
            have hyi : ∀ y ∈ ys, Dv (N4 p fp) H9 [4, 4] y := fun y hy => (hyi y hy).sameB sb9 fun a h => h.1
            have hj2 : z.toNat < xs.length := by omega
            refine ⟨fp, _, _, _, rfl, rfl, SqL.of c.hf, at_int z0 hj2, ?_⟩
            have hom : xs[z.toNat] ∈ xs := List.getElem_mem hj2
            generalize xs[z.toNat] = other at hom
            have nothing : ∀ H', Same H9 H' → ∃ fp' zs a8 a9, ([some (.ref p), some (.ref q), some (.ref fp), some odd, some (.int way), some (.int at_), some (.ref ra), some (.int pl), a8, a9] : List (Option V)) = [some (.ref p), some (.ref q), some (.ref fp'), some odd, some (.int way), some (.int at_), some (.ref ra), some (.int pl), a8, a9] ∧ SameB p H H' ∧ Bx H' p ∧ fp' ≠ p ∧ H' fp' = some (.lst zs) ∧ zs.length ≤ m + 1 ∧ ∀ y ∈ zs, Dv (· ≠ p) H' [r + 1, 4, 4] y := fun H' s =>
              ⟨fp, xs, none, none, rfl, (c.nw s).sb, (c.nw s).bx, fpp, (c.nw s).hf, by omega, fun y hy => (N4.dv ((c.nw s).dx y hy)).le le_row⟩
            have nothing : ∀ H', Same H9 H' → SameB p H H' ∧ Bx H' p ∧ fp ≠ p ∧ H' fp = some (.lst xs) ∧ xs.length ≤ m + 1 ∧ ∀ y ∈ xs, Dv (· ≠ p) H' [r + 1, 4, 4] y := fun H' s =>
              ⟨(c.nw s).sb, (c.nw s).bx, fpp, (c.nw s).hf, by omega, fun y hy => (N4.dv ((c.nw s).dx y hy)).le le_row⟩
            obtain ⟨Ty, ty⟩ := (c.dx other hom).ty (K := K)
            refine ⟨_, rfl, _, _, _, _, rfl, ty, kit_tup ty, _, rfl, ?_⟩
            cases ei : itemsOf H9 other with
            | none => exact iteF (iteF ⟨fp, _, _, _, rfl, nothing H9 (Same.refl _)⟩)
            | some us =>
              obtain ⟨oa, rfl, hoa⟩ := items_at ei
              obtain ⟨on, hol, hoi⟩ := (c.dx _ hom).items (.inr hoa)
              refine iteT ⟨_, rfl, (by show 0 ≤ sizeLine; decide), fun e ne => ?_⟩
              generalize e10 : upd H9 e _ = H10
              have s10 := upd_sm e10 ne
              cases us with
              | nil => exact ⟨oa, e, true, rfl, rfl, .tup (SqT.of (s10 _ _ hoa)) (SqT.of (upd_at e10)) .nil, _, rfl, iteF ⟨fp, _, _, _, rfl, nothing H10 s10⟩⟩
              | cons u us =>
                refine ⟨oa, e, false, rfl, rfl, ⟨u :: us, [], .inr (.inr ⟨by simp, SqT.of (s10 _ _ hoa), SqT.of (upd_at e10), rfl, [], fun j x y _ h => by simp at h⟩)⟩, _, rfl, iteT ?_⟩
                have c := c.nw s10
                have to : Tv (N4 p fp) H9 r (.ref oa) := ⟨oa, _, rfl, on, hoa, hol, hoi⟩
                refine ⟨_, rfl, _, rfl, sl_one (to.same s10) (fun a h => c.fr h) fun v1 H11 s11 t1 => ?_⟩
                have c := c.nw s11
                have sA := s10.trans s11
                refine ⟨_, rfl, _, rfl, ?_⟩
                dsimp only [tNoPart]
                refine sl_from (pl := 1) (sA _ _ hra) (fun y hy => (hyi y hy).same sA) (by decide) hys (fun a h => c.fr h) fun v2 H12 s12 t2 => ?_
                have c := c.nw s12
                refine cat_tv (t1.same s12) t2 (by omega) (fun a h => c.fr h) fun v3 H13 s13 t3 => ?_
                have c := c.nw s13
                refine ⟨_, rfl, _, rfl, fp, xs, at_, at_.toNat, rfl, rfl, c.hf, ixN_in a0 (by omega), ?_⟩
                exact ⟨fp, _, _, _, rfl, put v3 H13 c (t3.dv (by omega))⟩
          · -- about thirty rows
            refine ⟨_, rfl, fp, 31, xs, rfl, rfl, c.hf, by decide, by decide, (by show xs.length * 31 ≤ 16777216; omega), fun rp nrp => ?_⟩
            have rpn := c.fr nrp
            generalize e9 : upd H8 rp _ = H9
            have s9 := upd_sm e9 nrp
            have c := c.nw s9
            refine ⟨(by show 3 ≤ sizeLine; decide), fun l3 nl3 => ?_⟩
            have l3p := c.bx.ne nl3
            generalize e10 : upd H9 l3 _ = H10
            have s10 := upd_sm e10 nl3
            have c := c.nw s10
            refine ⟨_, rfl, p, 3, rfl, c.bx, by decide, by decide, fun z H11 z0 z1 sb11 b11 => ?_⟩
            have c := c.tk sb11 b11 fpp
            obtain ⟨v, hat, nu, rfl, nu0, nu1⟩ := pick (P := fun v => ∃ t : Int, v = .int t ∧ 0 ≤ t ∧ t ≤ 31) (n := 3) (upd_at e10) rfl z0 z1
              (all_cons ⟨_, rfl, by decide, by decide⟩ (all_cons ⟨_, rfl, by decide, by decide⟩ (all_cons ⟨_, rfl, by decide, by decide⟩ all_nil)))
            refine ⟨l3, _, _, _, rfl, rfl, SqL.of (sb11 _ _ (upd_at e10) l3p), hat, _, rfl, rp, _, rfl, SqL.of (sb11 _ _ (s10 _ _ (upd_at e9)) rpn.1), fun f2 nf2 => ?_⟩
            have s12 := same_new (o := .lst (cutV (List.replicate (31 : Int).toNat xs).flatten none (some nu))) nf2
            have f2p := c.bx.ne nf2
            have c := c.nw s12
            refine ⟨f2, _, _, _, rfl, c.sb, c.bx, f2p, upd_same, ?_, fun y hy => ?_⟩
            · have := cut_to (xs := (List.replicate (31 : Int).toNat xs).flatten) nu nu0
              omega
            · have hy' : y ∈ xs := by
                have h := cut_mem hy
                obtain ⟨l, hl, hyl⟩ := List.mem_flatten.mp h
                rw [(List.mem_replicate.mp hl).2] at hyl
                exact hyl
              exact (N4.dv (c.dx y hy')).le le_row
        · rintro σ' H9 ⟨fp', zs, a8, a9, rfl, sb, bx, n, h, hl, hi⟩
          exact ⟨_, rfl, fin H9 zs fp' sb bx n h hl hi⟩
end

end K05

set_option Elab.async false
set_option linter.all false
set_option maxRecDepth 100000
set_option maxHeartbeats 4000000
namespace K05
open PySem L2
/-! ### rows that are handed in: with five things, or with four where what is left is the length -/
def TH (H : Hp) (L : Rws) : Prop := ∀ p ∈ L, H p.1 = some (.tup p.2.vs) ∨ (p.2.r = p.2.g ∧ H p.1 = some (.tup (p.2.vs.take 4)))
theorem TL.th {H : Hp} {L : Rws} (h : TL H L) : TH H L := fun p hp => .inl (h p hp)
theorem isNm_small {a : Str} (h : isNm a = true) : a.length ≤ 1000 := by
  unfold isNm at h
  have h1 : within (.int a.length) 1 8 = true := by
    cases q : within (.int a.length) 1 8 with
    | true => rfl
    | false => rw [q] at h; cases h
  have := within_le h1
  omega
theorem row_in {K : PySem.W.Frag} {H : Hp} {a : Addr} {xs : List V} (h : H a = some (.tup xs)) (hi : ∀ y ∈ xs, Itm K H y) : RowIn K H (.ref a) := by
  refine ⟨⟨_, .tup h⟩, fun ys e y hy => ?_⟩
  rw [items_ref, h] at e
  cases e
  exact hi y hy
theorem itm_int {K : PySem.W.Frag} {H : Hp} {i : Int} : Itm K H (.int i) := ⟨⟨_, .int i⟩, fun _ e => nomatch e⟩
theorem itm_str {K : PySem.W.Frag} {H : Hp} {z : Str} (h : z.length ≤ 1000) : Itm K H (.str z) := ⟨⟨_, .str z⟩, fun _ e => by cases e; omega⟩
theorem TH.rowIn {K : PySem.W.Frag} {H : Hp} {L : Rws} (h : TH H L) (ok : ∀ r ∈ L, RowOk r.2) : ∀ y ∈ refs L, RowIn K H y := by
  intro y hy
  obtain ⟨p, hp, rfl⟩ := List.mem_map.mp hy
  have hs := isNm_small (ok p hp).n
  rcases h p hp with e | ⟨_, e⟩
  · exact row_in e (all_cons (itm_str hs) (all_cons itm_int (all_cons itm_int (all_cons itm_int (all_cons itm_int all_nil)))))
  · exact row_in e (all_cons (itm_str hs) (all_cons itm_int (all_cons itm_int (all_cons itm_int all_nil))))
theorem TH.seq {K : PySem.W.Frag} {H : Hp} {L : Rws} {q : Addr} (h : TH H L) (hq : H q = some (.lst (refs L)) ∨ H q = some (.tup (refs L))) (ok : RowsOk (L.map (·.2))) : SeqIn K H (.ref q) := by
  have hl : L.length ≤ 30 := by have := ok.few; rwa [List.length_map] at this
  refine ⟨hq.elim (fun e => ⟨_, .lst e⟩) (fun e => ⟨_, .tup e⟩), fun a o u e z => ?_, fun xs e => ?_⟩
  · cases e
    rcases hq with hq | hq <;> (rw [hq] at z; cases z)
  · have : xs = refs L := by rcases hq with hq | hq <;> (rw [seq_ref, hq] at e; exact (Option.some.inj e).symm)
    subst this
    exact ⟨by unfold refs; rw [List.length_map]; omega, h.rowIn fun r hr => ok.ok _ (List.mem_map.mpr ⟨r, hr, rfl⟩)⟩
theorem within_int {i lo hi : Int} (h1 : lo ≤ i) (h2 : i ≤ hi) : within (.int i) lo hi = true := by simp [within, h1, h2]
theorem RowOk.f4 {ss : List Str} {r : Row} (h : RowOk r) (hn : r.n ∉ ss) : fault4 ss (.str r.n) (.int r.f) (.int r.l) (.int r.g) = none := by
  have e2 : (ss.any fun z => eqS z (.str r.n)) = false := by
    rw [List.any_eq_false]
    intro z hz q
    have : z = r.n := eq_of_beq q
    exact hn (this ▸ hz)
  have hm : mx1 (iV (.int r.f) - 1) ≤ r.l := by
    show mx1 (r.f - 1) ≤ r.l
    unfold mx1
    have := h.l0
    have := h.l1
    split <;> omega
  unfold fault4
  rw [if_neg (by rw [show isName (.str r.n) = isNm r.n from rfl, h.n]; decide), if_neg (by rw [e2]; decide), if_neg (by rw [within_int h.f0 (by have := h.f1; omega)]; decide), if_neg (by rw [within_int hm h.l2]; decide), if_neg (by rw [within_int h.g0 h.g1]; decide)]
theorem RowOk.flt {H : Hp} {ss : List Str} {a : Addr} {r : Row} (h : RowOk r) (hn : r.n ∉ ss) (ha : H a = some (.tup r.vs) ∨ (r.r = r.g ∧ H a = some (.tup (r.vs.take 4)))) : faultV H ss (.ref a) = none ∧ rowOf H (.ref a) = r := by
  have f4 := h.f4 hn
  unfold faultV rowOf
  rcases ha with e | ⟨q, e⟩
  · rw [items_ref, e]
    refine ⟨?_, rfl⟩
    show (match fault4 ss (.str r.n) (.int r.f) (.int r.l) (.int r.g) with | some z => some z | none => if within (.int r.r) 0 (iV (.int r.g)) = false then some ("left" : Str) else none) = none
    rw [f4]
    show (if within (.int r.r) 0 r.g = false then some ("left" : Str) else none) = none
    rw [if_neg (by rw [within_int h.r0 h.r1]; decide)]
  · rw [items_ref, e]
    refine ⟨f4, ?_⟩
    cases r
    cases q
    rfl
theorem TH.good {H : Hp} : ∀ {L : Rws} {ss : List Str} {i : Nat}, TH H L → (∀ r ∈ L, RowOk r.2) → (ss ++ L.map (·.2.n)).Nodup → goodF H i ss (refs L) = none
  | [], _, _, _, _, _ => rfl
  | p :: L, ss, i, h, ok, nd => by
    have hn : p.2.n ∉ ss := fun q => by
      rw [List.map_cons] at nd
      exact (List.nodup_append.mp nd).2.2 _ q _ (by simp) rfl
    have f := (ok p (by simp)).flt hn (h p (by simp))
    show (match faultV H ss (.ref p.1) with | some z => some (i, z) | none => goodF H (i + 1) (ss ++ [(rowOf H (.ref p.1)).n]) (refs L)) = none
    rw [f.1, f.2]
    refine TH.good (fun q hq => h q (List.mem_cons_of_mem _ hq)) (fun q hq => ok q (List.mem_cons_of_mem _ hq)) ?_
    rw [List.append_assoc]
    exact nd
theorem TH.flt {H : Hp} {L : Rws} {q : Addr} (h : TH H L) (hq : H q = some (.lst (refs L)) ∨ H q = some (.tup (refs L))) (ok : RowsOk (L.map (·.2))) : fltOf H (.ref q) = none ∧ rowsOf H (.ref q) = L.map (·.2) := by
  have hl : L.length ≤ 30 := by have := ok.few; rwa [List.length_map] at this
  have ok' : ∀ r ∈ L, RowOk r.2 := fun r hr => ok.ok _ (List.mem_map.mpr ⟨r, hr, rfl⟩)
  have es : seqOf H (.ref q) = some (refs L) := by rcases hq with e | e <;> (rw [seq_ref, e])
  have nd : (([] : List Str) ++ L.map fun p => p.2.n).Nodup := by
    have := ok.nd
    rw [List.map_map] at this
    exact this
  refine ⟨?_, ?_⟩
  · unfold fltOf
    rw [es]
    show fltL H (refs L) = none
    unfold fltL
    rw [if_neg (by unfold refs; rw [List.length_map]; omega), h.good ok' nd]
    rfl
  · unfold rowsOf
    rw [es]
    show (refs L).map (rowOf H) = _
    unfold refs
    rw [List.map_map]
    exact List.map_congr_left fun p hp => ((ok' p hp).flt (ss := []) (by simp) (h p hp)).2
end K05

set_option Elab.async false
set_option linter.all false
set_option maxRecDepth 100000
set_option maxHeartbeats 4000000
namespace K05
open PySem L2
/-! ### the law -/
theorem only_no {H : Hp} (h : Only H) (a : Addr) : ∀ ys, H a ≠ some (.lst ys) := fun ys q => by
  rcases h a with z | ⟨o, xs, z⟩
  · rw [z] at q; cases q
  · rw [z] at q; cases q
theorem sql_same {K : PySem.W.Frag} {a : Addr} {H H' : Hp} {xs : List V} (e : Same H H') (h : SqL K H a xs) : SqL K H' a xs := by
  rcases h with (h | ⟨o, h⟩) | h
  · exact .inl (.inl (e _ _ h))
  · exact .inl (.inr ⟨o, e _ _ h⟩)
  · exact .inr h
def sp_law (K : PySem.W.Frag) : Sp := fun vs H Q _ => ∃ (a : Addr) (ns : List Int), vs = [.ref a] ∧ SqL K H a (ns.map V.int) ∧ (∀ ys, H a ≠ some (.lst ys)) ∧ ns.length ≤ 63 ∧ ∀ H', Q (.bl true) H'
theorem LF_lt : ∀ c ∈ (LET ++ FIG).cps.toList, c < 16 ^ 8 := by decide +kernel
theorem nm_fl {z : Str} (h : isNm z = true) : FlB (.str z) := by
  unfold isNm at h
  rw [Bool.and_eq_true, Bool.and_eq_true] at h
  obtain ⟨h1, _, h3⟩ := h
  have := within_le h1
  refine ⟨by omega, fun c hc => ?_⟩
  unfold among at h3
  rw [List.all_eq_true] at h3
  exact LF_lt c (of_decide_eq_true (h3 c hc))
theorem row_dv {p : Addr} {H : Hp} {L : Rws} {xs : List V} (tl : TL H L) (hp : H p = some (.lst xs)) (ok : ∀ r ∈ L, RowOk r.2) : ∀ y ∈ refs L, Dv (· ≠ p) H [5, 4, 4] y := by
  intro y hy
  obtain ⟨r, hr, rfl⟩ := List.mem_map.mp hy
  have h := tl r hr
  have o := ok r hr
  have h1 := o.f0
  have h2 := o.f1
  have h3 := o.l0
  have h4 := o.l2
  have h5 := o.g0
  have h6 := o.g1
  have h7 := o.r0
  have h8 := o.r1
  have i : ∀ z : Int, 0 ≤ z → z ≤ 200 → z.natAbs < 10 ^ 40 := fun z _ _ => by omega
  exact .tup (ne_of h hp (by intro z; cases z)) h (by show 5 ≤ 5; decide) (all_cons (.fl (nm_fl o.n)) (all_cons (.int (i _ (by omega) (by omega))) (all_cons (.int (i _ (by omega) (by omega))) (all_cons (.int (i _ (by omega) (by omega))) (all_cons (.int (i _ (by omega) (by omega))) all_nil)))))
theorem dv_seq {K : PySem.W.Frag} {N : Addr → Prop} {H : Hp} {m r : Nat} {x : V} (h : Dv N H [m, r, 4, 4] x) (hm : m ≤ 1000) : SeqIn K H x := by
  refine ⟨h.ty, h.nf, fun xs e => ?_⟩
  obtain ⟨a, rfl, ha⟩ := seq_at e
  obtain ⟨_, hl, hi⟩ := h.items ha
  refine ⟨by omega, fun y hy => ⟨(hi y hy).ty, fun ws ew z hz => ?_⟩⟩
  obtain ⟨b, rfl, hb⟩ := items_at ew
  obtain ⟨_, _, hj⟩ := (hi _ hy).items (.inr hb)
  exact ⟨(hj z hz).ty, (hj z hz).short⟩
def lstOf (H : Hp) : V → Option (List V)
  | .ref a => match H a with
    | some (.lst xs) => some xs
    | _ => none
  | _ => none
theorem lst_ref (H : Hp) (a : Addr) : lstOf H (.ref a) = match H a with | some (.lst xs) => some xs | _ => none := rfl
theorem kit_lst {K : PySem.W.Frag} {H : Hp} {x : V} {T : String} (h : TyOf K H x (.type T)) (nf : ∀ a o u, x = .ref a → H a ≠ some (.frz o u)) : PySem.W.kitOne K (.type T) (.type "list") = some (lstOf H x).isSome := by
  cases h with
  | lst h => rw [lst_ref, h]; rfl
  | frz h => exact absurd h (nf _ _ _ rfl)
  | tup h => rw [lst_ref, h]; rfl
  | dK h => rw [lst_ref, h]; rfl
  | dT h => rw [lst_ref, h]; rfl
  | _ => rfl
theorem lst_at {H : Hp} {x : V} {xs : List V} (h : lstOf H x = some xs) : ∃ a, x = .ref a ∧ H a = some (.lst xs) := by
  unfold lstOf at h
  split at h
  · rename_i a
    split at h
    · rename_i ys e
      cases h
      exact ⟨a, rfl, e⟩
    · cases h
  · cases h
theorem flt_tup {H : Hp} {a t : Addr} {xs : List V} (ha : H a = some (.lst xs)) (ht : H t = some (.tup xs)) : fltOf H (.ref t) = fltOf H (.ref a) := by
  unfold fltOf
  rw [seq_ref, seq_ref, ha, ht]
/-- what is told twice is alike -/
theorem alike {K : PySem.W.Frag} {n : Nat} {H : Hp} {t1 t2 : Addr} {at_ : V} {why : Str} (h1 : H t1 = some (.tup [at_, .str why])) (h2 : H t2 = some (.tup [at_, .str why])) (ha : at_ = .non ∨ ∃ i, at_ = .int i) : SeqEq K H (Eqq K H n) t1 t2 true := by
  have e : ∀ {x : V}, flatV x = true → Eqq K H n x x true := fun {x} f => by
    have := Eqq.flat (K := K) (H := H) (n := n) f f
    rwa [eqV_refl f] at this
  refine .tup (SqT.of h1) (SqT.of h2) (EqAll.refl (all_cons (e ?_) (all_cons (e rfl) all_nil)))
  rcases ha with rfl | ⟨i, rfl⟩ <;> rfl
section
variable {P : Program} {w : World} {K : PySem.W.Frag} {mg : Str → Option Value} {base : Heap} {D : Ad}
abbrev s_law : Stmt := top 33
theorem sc_law : FnScope ["_law_script", "_law_k", "_law_box_here", "_law_rows_here", "_law_thing_here", "_law_lap", "_law_kept"] ["_law_script"] (defScope s_law) := ⟨rfl, rfl, rfl, by decide +kernel, rfl, by decide +kernel, by decide +kernel⟩
theorem ok_law {f : Addr} {fd : FuncData} (F : Fun K "law" "law" s_law f fd) (T : Txt K mg D) (c__law_answer : CalF P w K mg base 8 "_law_answer" ["_law_thing_here"] (sp_lflt K)) (c__law_fault : CalF P w K mg base 3 "_law_fault" ["_law_thing_here"] (sp_lflt K)) (c__law_take : CalF P w K mg base 1 "_law_take" ["_law_box_here", "_law_many"] (sp_take)) (c__law_spoilt : CalF P w K mg base 3 "_law_spoilt" ["_law_box_here", "_law_rows_here"] (sp_spoilt)) (c__law_rows : CalF P w K mg base 3 "_law_rows" ["_law_box_here", "_law_most"] (sp_lrows)) (c__law_box : CalF P w K mg base 1 "_law_box" ["_law_cell_here"] (sp_box)) (c__law_cell : CalF P w K mg base 1 "_law_cell" ["_law_script", "_law_k"] (sp_cell K)) : FnOk P w K mg base CX0 9 f fd ["_law_script"] (sp_law K) := by
  refine F.ok sc_law (fun vs H Q E h => ?_) (fun cdv A outer s H vs Q E hr h => ?_)
  · obtain ⟨a, ns, rfl, hS, hno, hlen, k⟩ := h
    rfl
  · obtain ⟨a, ns, rfl, hS, hno, hlen, k⟩ := h
    refine ⟨_, (@pss_cons _ _ _ _ _ (@ps_for _ _ _ _ _ _ _ _ PassesOwn.never rfl (@pi_range1 _ _ _ _ _ _ (by rfl) T.b_range (@pa_c _ _ _ _ _ (@pe_callB _ _ _ _ _ _ _ _ _ (call_max2 rfl) (by rfl) T.b_max (by decide +kernel) (@pa_c _ _ _ _ _ (@pe_int _ _ _ _) (@pa_c _ _ _ _ _ (@pe_callB _ _ _ _ _ _ _ _ _ (call_min2 rfl) (by rfl) T.b_min (by decide +kernel) (@pa_c _ _ _ _ _ (@pe_callB _ _ _ _ _ _ _ _ _ (call_lenK (K := K) rfl) (by rfl) T.b_len (by decide +kernel) (@pa_c _ _ _ _ _ (@pv _ 0 _ _ (by rfl) (by first | exact Or.inl rfl | exact Or.inr (Or.inl rfl) | exact Or.inr (Or.inr rfl)) (by decide) (by decide)) (@pa_nil _) (by rfl)) (by decide) (by decide) (by rfl) (by rfl)) (@pa_c _ _ _ _ _ (@pe_int _ _ _ _) (@pa_nil _) (by rfl)) (by rfl)) (by decide) (by decide) (by rfl) (by rfl)) (@pa_nil _) (by rfl)) (by rfl)) (by decide) (by decide) (by rfl) (by rfl)) (@pa_nil _) (by rfl)) (by rfl)) (@pg_name _ _ 1 _ sc_law.nd rfl (by first | exact Or.inl rfl | exact Or.inr rfl) (by first | exact .inl rfl | exact .inr rfl | assumption)) (@pss_cons _ _ _ _ _ (@ps_set _ _ 2 _ _ _ _ sc_law.nd rfl (by first | exact Or.inl rfl | exact Or.inr rfl) (@pe_fun _ _ _ _ _ _ _ _ _ _ _ c__law_box hr (@pa_c _ _ _ _ _ (@pe_fun _ _ _ _ _ _ _ _ _ _ _ c__law_cell hr (@pa_c _ _ _ _ _ (@pv _ 0 _ _ (by rfl) (by first | exact Or.inl rfl | exact Or.inr (Or.inl rfl) | exact Or.inr (Or.inr rfl)) (by decide) (by decide)) (@pa_c _ _ _ _ _ (@pv _ 1 _ _ (by rfl) (by first | exact Or.inl rfl | exact Or.inr (Or.inl rfl) | exact Or.inr (Or.inr rfl)) (by decide) (by decide)) (@pa_nil _) (by rfl)) (by rfl)) (by rfl) (by decide) (by decide) (by rfl) (by rfl)) (@pa_nil _) (by rfl)) (by rfl) (by decide) (by decide) (by rfl) (by rfl)) (by rfl) (by first | exact .inl rfl | exact .inr rfl | assumption)) 
      (@pss_cons _ _ _ _ _ (@ps_set _ _ 3 _ _ _ _ sc_law.nd rfl (by first | exact Or.inl rfl | exact Or.inr rfl) (@pe_fun _ _ _ _ _ _ _ _ _ _ _ c__law_rows hr (@pa_c _ _ _ _ _ (@pv _ 2 _ _ (by rfl) (by first | exact Or.inl rfl | exact Or.inr (Or.inl rfl) | exact Or.inr (Or.inr rfl)) (by decide) (by decide)) (@pa_c _ _ _ _ _ (@pe_ix _ _ _ _ _ _ _ (ix_listK (K := K) rfl) (@pe_lst _ _ _ _ (@pa_c _ _ _ _ _ (@pe_int _ _ _ _) (@pa_c _ _ _ _ _ (@pe_int _ _ _ _) (@pa_nil _) (by rfl)) (by rfl))) (@pe_cut _ _ _ (@pe_callTy _ _ _ _ _ _ _ _ _ call_int1 (by rfl) T.b_int (by decide +kernel) (@pa_c _ _ _ _ _ (@pe_cmpR _ _ _ _ _ _ _ _ op_eq (@pe_fun _ _ _ _ _ _ _ _ _ _ _ c__law_take hr (@pa_c _ _ _ _ _ (@pv _ 2 _ _ (by rfl) (by first | exact Or.inl rfl | exact Or.inr (Or.inl rfl) | exact Or.inr (Or.inr rfl)) (by decide) (by decide)) (@pa_c _ _ _ _ _ (@pe_int _ _ _ _) (@pa_nil _) (by rfl)) (by rfl)) (by rfl) (by decide) (by decide) (by rfl) (by rfl)) (@pe_int _ _ _ _) (nomark _)) (@pa_nil _) (by rfl)) (by decide) (by decide) (by rfl) (by rfl))) (fun _ _ => rfl)) (@pa_nil _) (by rfl)) (by rfl)) (by rfl) (by decide) (by decide) (by rfl) (by rfl)) (by rfl) (by first | exact .inl rfl | exact .inr rfl | assumption)) 
      (@pss_cons _ _ _ _ _ (@ps_if _ _ _ _ _ _ _ _ (@pt_cmpR _ _ _ _ _ _ _ _ op_notN (@pe_fun _ _ _ _ _ _ _ _ _ _ _ c__law_answer hr (@pa_c _ _ _ _ _ (@pv _ 3 _ _ (by rfl) (by first | exact Or.inl rfl | exact Or.inr (Or.inl rfl) | exact Or.inr (Or.inr rfl)) (by decide) (by decide)) (@pa_nil _) (by rfl)) (by rfl) (by decide) (by decide) (by rfl) (by rfl)) (@pe_non _ _ _) (nomark _)) (@pss_one _ _ _ (@ps_ret _ _ _ _ (@pe_bl _ _ _ _))) (@pss_nil _)) 
      (@pss_cons _ _ _ _ _ (@ps_set _ _ 4 _ _ _ _ sc_law.nd rfl (by first | exact Or.inl rfl | exact Or.inr rfl) (@pe_fun _ _ _ _ _ _ _ _ _ _ _ c__law_spoilt hr (@pa_c _ _ _ _ _ (@pv _ 2 _ _ (by rfl) (by first | exact Or.inl rfl | exact Or.inr (Or.inl rfl) | exact Or.inr (Or.inr rfl)) (by decide) (by decide)) (@pa_c _ _ _ _ _ (@pv _ 3 _ _ (by rfl) (by first | exact Or.inl rfl | exact Or.inr (Or.inl rfl) | exact Or.inr (Or.inr rfl)) (by decide) (by decide)) (@pa_nil _) (by rfl)) (by rfl)) (by rfl) (by decide) (by decide) (by rfl) (by rfl)) (by rfl) (by first | exact .inl rfl | exact .inr rfl | assumption)) 
      (@pss_cons _ _ _ _ _ (@ps_for _ _ _ _ _ _ _ _ PassesOwn.never rfl (@pi_range1 _ _ _ _ _ _ (by rfl) T.b_range (@pa_c _ _ _ _ _ (@pe_op _ _ _ _ _ _ _ _ op_add (@pe_int _ _ _ _) (@pe_fun _ _ _ _ _ _ _ _ _ _ _ c__law_take hr (@pa_c _ _ _ _ _ (@pv _ 2 _ _ (by rfl) (by first | exact Or.inl rfl | exact Or.inr (Or.inl rfl) | exact Or.inr (Or.inr rfl)) (by decide) (by decide)) (@pa_c _ _ _ _ _ (@pe_int _ _ _ _) (@pa_nil _) (by rfl)) (by rfl)) (by rfl) (by decide) (by decide) (by rfl) (by rfl))) (@pa_nil _) (by rfl)) (by rfl)) (@pg_name _ _ 5 _ sc_law.nd rfl (by first | exact Or.inl rfl | exact Or.inr rfl) (by first | exact .inl rfl | exact .inr rfl | assumption)) (@pss_one _ _ _ (@ps_if _ _ _ _ _ _ _ _ (@pt_val _ _ _ (@pe_callB _ _ _ _ _ _ _ _ _ (call_isinstK (K := K) rfl) (by rfl) T.b_isinstance (by decide +kernel) (@pa_c _ _ _ _ _ (@pv _ 4 _ _ (by rfl) (by first | exact Or.inl rfl | exact Or.inr (Or.inl rfl) | exact Or.inr (Or.inr rfl)) (by decide) (by decide)) (@pa_c _ _ _ _ _ (@pe_type _ _ "list" _ rfl T.b_list (by decide +kernel) (by decide) (by decide)) (@pa_nil _) (by rfl)) (by rfl)) (by decide) (by decide) (by rfl) (by rfl)) (by intro _; rfl)) (@pss_one _ _ _ (@ps_set _ _ 4 _ _ _ _ sc_law.nd rfl (by first | exact Or.inl rfl | exact Or.inr rfl) (@pe_fun _ _ _ _ _ _ _ _ _ _ _ c__law_spoilt hr (@pa_c _ _ _ _ _ (@pv _ 2 _ _ (by rfl) (by first | exact Or.inl rfl | exact Or.inr (Or.inl rfl) | exact Or.inr (Or.inr rfl)) (by decide) (by decide)) (@pa_c _ _ _ _ _ (@pv _ 4 _ _ (by rfl) (by first | exact Or.inl rfl | exact Or.inr (Or.inl rfl) | exact Or.inr (Or.inr rfl)) (by decide) (by decide)) (@pa_nil _) (by rfl)) (by rfl)) (by rfl) (by decide) (by decide) (by rfl) (by rfl)) (by rfl) (by first | exact .inl rfl | exact .inr rfl | assumption))) (@pss_nil _))) (by intro _; rfl)) 
      (@pss_cons _ _ _ _ _ (@ps_set _ _ 6 _ _ _ _ sc_law.nd rfl (by first | exact Or.inl rfl | exact Or.inr rfl) (@pe_callB _ _ _ _ _ _ _ _ _ (call_repr hr) (by rfl) T.b_repr (by decide +kernel) (@pa_c _ _ _ _ _ (@pv _ 4 _ _ (by rfl) (by first | exact Or.inl rfl | exact Or.inr (Or.inl rfl) | exact Or.inr (Or.inr rfl)) (by decide) (by decide)) (@pa_nil _) (by rfl)) (by decide) (by decide) (by rfl) (by rfl)) (by rfl) (by first | exact .inl rfl | exact .inr rfl | assumption)) 
      (@pss_cons _ _ _ _ _ (@ps_if _ _ _ _ _ _ _ _ (@pt_cut _ _ _ (@PW.pt _ _ _ (@pw_or _ _ _ _ _ _ _ (@pt_cmpR _ _ _ _ _ _ _ _ (op_neN (K := K) 8 hr rfl) (@pe_fun _ _ _ _ _ _ _ _ _ _ _ c__law_answer hr (@pa_c _ _ _ _ _ (@pv _ 4 _ _ (by rfl) (by first | exact Or.inl rfl | exact Or.inr (Or.inl rfl) | exact Or.inr (Or.inr rfl)) (by decide) (by decide)) (@pa_nil _) (by rfl)) (by rfl) (by decide) (by decide) (by rfl) (by rfl)) (@pe_fun _ _ _ _ _ _ _ _ _ _ _ c__law_fault hr (@pa_c _ _ _ _ _ (@pv _ 4 _ _ (by rfl) (by first | exact Or.inl rfl | exact Or.inr (Or.inl rfl) | exact Or.inr (Or.inr rfl)) (by decide) (by decide)) (@pa_nil _) (by rfl)) (by rfl) (by decide) (by decide) (by rfl) (by rfl)) (nomark _)) (@pw_or1 _ _ _ _ (@pt_cmpR _ _ _ _ _ _ _ _ op_ne (@pe_callB _ _ _ _ _ _ _ _ _ (call_repr hr) (by rfl) T.b_repr (by decide +kernel) (@pa_c _ _ _ _ _ (@pv _ 4 _ _ (by rfl) (by first | exact Or.inl rfl | exact Or.inr (Or.inl rfl) | exact Or.inr (Or.inr rfl)) (by decide) (by decide)) (@pa_nil _) (by rfl)) (by decide) (by decide) (by rfl) (by rfl)) (@pv _ 6 _ _ (by rfl) (by first | exact Or.inl rfl | exact Or.inr (Or.inl rfl) | exact Or.inr (Or.inr rfl)) (by decide) (by decide)) (nomark _)))))) (@pss_one _ _ _ (@ps_ret _ _ _ _ (@pe_bl _ _ _ _))) (@pss_nil _)) 
      (@pss_one _ _ _ (@ps_if _ _ _ _ _ _ _ _ (@pt_cut _ _ _ (@PW.pt _ _ _ (@pw_and _ _ _ _ _ _ _ (@pt_cmpR _ _ _ _ _ _ _ _ op_eq (@pe_fun _ _ _ _ _ _ _ _ _ _ _ c__law_take hr (@pa_c _ _ _ _ _ (@pv _ 2 _ _ (by rfl) (by first | exact Or.inl rfl | exact Or.inr (Or.inl rfl) | exact Or.inr (Or.inr rfl)) (by decide) (by decide)) (@pa_c _ _ _ _ _ (@pe_int _ _ _ _) (@pa_nil _) (by rfl)) (by rfl)) (by rfl) (by decide) (by decide) (by rfl) (by rfl)) (@pe_int _ _ _ _) (nomark _)) (@pw_and _ _ _ _ _ _ _ (@pt_val _ _ _ (@pe_callB _ _ _ _ _ _ _ _ _ (call_isinstK (K := K) rfl) (by rfl) T.b_isinstance (by decide +kernel) (@pa_c _ _ _ _ _ (@pv _ 4 _ _ (by rfl) (by first | exact Or.inl rfl | exact Or.inr (Or.inl rfl) | exact Or.inr (Or.inr rfl)) (by decide) (by decide)) (@pa_c _ _ _ _ _ (@pe_type _ _ "list" _ rfl T.b_list (by decide +kernel) (by decide) (by decide)) (@pa_nil _) (by rfl)) (by rfl)) (by decide) (by decide) (by rfl) (by rfl)) (by intro _; rfl)) (@pw_and1 _ _ _ _ (@pt_cmpR _ _ _ _ _ _ _ _ (op_neN (K := K) 8 hr rfl) (@pe_fun _ _ _ _ _ _ _ _ _ _ _ c__law_answer hr (@pa_c _ _ _ _ _ (@pe_callTy _ _ _ _ _ _ _ _ _ call_tuple_of (by rfl) T.b_tuple (by decide +kernel) (@pa_c _ _ _ _ _ (@pv _ 4 _ _ (by rfl) (by first | exact Or.inl rfl | exact Or.inr (Or.inl rfl) | exact Or.inr (Or.inr rfl)) (by decide) (by decide)) (@pa_nil _) (by rfl)) (by decide) (by decide) (by rfl) (by rfl)) (@pa_nil _) (by rfl)) (by rfl) (by decide) (by decide) (by rfl) (by rfl)) (@pe_fun _ _ _ _ _ _ _ _ _ _ _ c__law_fault hr (@pa_c _ _ _ _ _ (@pv _ 4 _ _ (by rfl) (by first | exact Or.inl rfl | exact Or.inr (Or.inl rfl) | exact Or.inr (Or.inr rfl)) (by decide) (by decide)) (@pa_nil _) (by rfl)) (by rfl) (by decide) (by decide) (by rfl) (by rfl)) (nomark _))))))) (@pss_one _ _ _ (@ps_ret _ _ _ _ (@pe_bl _ _ _ _))) (@pss_nil _)))))))))) (by intro _; rfl)) 
      (@pss_one _ _ _ (@ps_ret _ _ _ _ (@pe_bl _ _ _ _)))), ?_⟩
    refine ⟨_, rfl, _, _, rfl, .inl ⟨_, hS, rfl⟩, _, _, rfl, _, _, rfl, _, rfl, ?_⟩
    generalize hN : (if (if (40 : Int) < ((List.map V.int ns).length : Int) then (40 : Int) else ((List.map V.int ns).length : Int)) > 10 then (if (40 : Int) < ((List.map V.int ns).length : Int) then (40 : Int) else ((List.map V.int ns).length : Int)) else 10) = N
    have hN0 : 10 ≤ N ∧ N ≤ 40 := by
      rw [List.length_map] at hN
      rw [← hN]
      split <;> split <;> omega
    refine ⟨by omega, by omega, for_range (lo := 0) (n := N.toNat) (fun i σ H1 => Same H H1 ∧ ∃ a1 a2 a3 a4 a5 a6, σ = [some (.ref a), a1, a2, a3, a4, a5, a6]) ⟨Same.refl H, _, _, _, _, _, _, rfl⟩ ?_ ?_⟩
    · rintro i σ H1 hi ⟨sm, a1, a2, a3, a4, a5, a6, rfl⟩
      refine ⟨_, rfl, _, rfl, a, ns, _, rfl, sql_same sm hS, hlen, by omega, by omega, fun z => ⟨z, rfl, fun p H2 n2 s2 b2 => ?_⟩⟩
      -- the rows
      refine ⟨_, rfl, (by show 2 ≤ sizeLine; decide), fun l1 nl1 => ?_⟩
      generalize e3 : upd H2 l1 _ = H3
      have s3 := upd_sm e3 nl1
      have l1p := b2.ne nl1
      refine ⟨fun v H' => ∃ b : Bool, v = .int (if b then 1 else 0) ∧ SameB p H3 H' ∧ Bx H' p, ⟨_, rfl, p, 8, rfl, b2.same s3, by decide, by decide, fun z H' z0 z1 sb b => ⟨rfl, .inr ⟨_, rfl, _, rfl, sb, b⟩⟩⟩, ?_⟩
      rintro _ H4 ⟨b, rfl, sb4, b4⟩
      obtain ⟨v, hat, m, rfl, m0, m1⟩ : ∃ v, atI [V.int 8, .int 30] (if b then 1 else 0) = some v ∧ ∃ m, v = .int m ∧ 0 ≤ m ∧ m ≤ 30 := by
        cases b
        · exact ⟨_, atI_nat (j := 0) rfl, _, rfl, by decide, by decide⟩
        · exact ⟨_, atI_nat (j := 1) rfl, _, rfl, by decide, by decide⟩
      refine ⟨l1, _, _, _, rfl, rfl, SqL.of (sb4 _ _ (upd_at e3) l1p), hat, p, m, rfl, b4, m0, m1, fun q L H5 sb5 b5 nq hq tl _ ok _ => ?_⟩
      have few : L.length ≤ 30 := by have := ok.few; rwa [List.length_map] at this
      have sm5 : Same H1 H5 := fun x u h => sb5 _ _ (sb4 _ _ (s3 _ _ (s2 _ _ h)) (ne_of_none h n2)) (ne_of_none h n2)
      have qp := b4.ne nq
      -- they are pieces
      have fl := tl.th.flt (.inl hq) ok
      refine ⟨_, rfl, _, rfl, tl.th.seq (.inl hq) ok, fun at_ why e => absurd (fl.1.symm.trans e) (by simp), fun _ H6 s6 => ⟨rfl, _, rfl, iteF ?_⟩⟩
      -- with a thing otherwise
      have b6 := b5.same s6
      have sm6 := sm5.trans s6
      have dr : ∀ y ∈ refs L, Dv (· ≠ p) H6 [5, 4, 4] y := fun y hy => (let ⟨_, _, _, e⟩ := b5; row_dv tl e (fun r hr => ok.ok _ (List.mem_map.mpr ⟨r, hr, rfl⟩)) y hy : Dv (· ≠ p) H5 [5, 4, 4] y).same s6
      refine ⟨_, rfl, _, rfl, p, q, _, 30, 5, rfl, b6, s6 _ _ hq, by unfold refs; rw [List.length_map]; exact few, by decide, by decide, by decide, by decide, dr, fun x0 HA sbA bA d0 => ?_⟩
      have smA : Same H1 HA := fun y u h => sbA _ _ (sm6 _ _ h) (ne_of_none h n2)
      -- again, once or twice
      refine ⟨_, rfl, p, 2, rfl, bA, by decide, by decide, fun zl HB zl0 zl1 sbB bB => ⟨_, _, rfl, rfl, _, rfl, by omega, by omega, ?_⟩⟩
      have smB : Same H1 HB := fun y u h => sbB _ _ (smA _ _ h) (ne_of_none h n2)
      refine for_range (lo := 0) (n := (1 + zl).toNat) (fun j σ Hj => Same H1 Hj ∧ Bx Hj p ∧ j ≤ 2 ∧ ∃ (x : V) (b5 b6 : Option V), σ = [some (.ref a), some (.int (0 + (i : Int))), some (.ref p), some (.ref q), some x, b5, b6] ∧ Dv (· ≠ p) Hj [31 + j, 6 + j, 4, 4] x)
        ⟨smB, bB, by omega, x0, _, _, rfl, d0.sameB sbB fun a h => h⟩ ?_ ?_
      · rintro j σ Hj hj ⟨smj, bj, hj2, x, b5, b6, rfl, dj⟩
        obtain ⟨Ty, ty⟩ := dj.ty (K := K)
        refine ⟨_, rfl, _, _, _, _, rfl, ty, kit_lst ty dj.nf, _, rfl, ?_⟩
        cases el : lstOf Hj x with
        | none => exact iteF ⟨smj, bj, by omega, x, _, _, rfl, dj.le (.cons (by omega) (.cons (by omega) .refl))⟩
        | some xs =>
          obtain ⟨xa, rfl, hxa⟩ := lst_at el
          obtain ⟨xn, hxl, hxi⟩ := dj.items (.inl hxa)
          refine iteT ⟨_, rfl, _, rfl, p, xa, xs, 31 + j, 6 + j, rfl, bj, hxa, hxl, by omega, by omega, by omega, by omega, hxi, fun x' Hk sbk bk dk => ?_⟩
          exact ⟨fun y u h => sbk _ _ (smj _ _ h) (ne_of_none h n2), bk, by omega, x', _, _, rfl, dk⟩
      rintro σ H7 ⟨sm7, b7, _, x, b5, b6, rfl, dl⟩
      have dx : Dv (· ≠ p) H7 [33, 8, 4, 4] x := dl.le (.cons (by omega) (.cons (by omega) .refl))
      have hb : bound [33, 8, 4, 4] ≤ sizeLine := by decide
      refine ⟨_, rfl, x, 4, rfl, dx.sh.1, by decide, Nat.le_trans dx.sh.2 hb, ?_⟩
      have sq : SeqIn K H7 x := dv_seq dx (by decide)
      refine ⟨fun b H' => b = false ∧ Same H7 H', ?_, ?_⟩
      · have rest : ∀ H8, Same H7 H8 → Same H7 H8 ∧ shS H8 4 x = shS H7 4 x ∧ ShOk H8 4 x ∧ (shS H8 4 x).length ≤ sizeLine := fun H8 s8 => by
          have e : shS H8 4 x = shS H7 4 x := dx.shSame fun a o _ e => s8 _ _ e
          exact ⟨s8, e, (dx.same s8).sh.1, Nat.le_trans (dx.same s8).sh.2 hb⟩
        cases ef : fltOf H7 x with
        | none =>
          refine ⟨_, rfl, x, rfl, sq, fun at_ why e => absurd (ef.symm.trans e) (by simp), fun _ H8 s8 => ?_⟩
          have f8 := (sq.flt s8).1
          refine ⟨_, rfl, x, rfl, sq.same s8, fun at_ why e => absurd ((f8.trans ef).symm.trans e) (by simp), fun _ H9 s9 => .inl ⟨rfl, rfl, _, rfl, iteF ?_⟩⟩
          obtain ⟨s79, e, o, z⟩ := rest H9 (s8.trans s9)
          refine ⟨_, rfl, x, 4, rfl, o, by decide, z, _, rfl, rfl, _, rfl, ?_, s79⟩
          rw [e, decide_eq_true rfl]
          rfl
        | some aw =>
          obtain ⟨at0, why0⟩ := aw
          refine ⟨_, rfl, x, rfl, sq, fun at_ why e t1 H8 s8 nt1 ht1 => ?_, fun e => absurd (ef.symm.trans e) (by simp)⟩
          cases ef.symm.trans e
          have f8 := (sq.flt s8).1
          refine ⟨_, rfl, x, rfl, sq.same s8, fun at_ why e t2 H9 s9 nt2 ht2 => ?_, fun e => absurd ((f8.trans ef).symm.trans e) (by simp)⟩
          cases (f8.trans ef).symm.trans e
          refine .inr ⟨t1, t2, true, rfl, rfl, alike (s9 _ _ ht1) ht2 (flt_at ef), _, rfl, iteF ?_⟩
          obtain ⟨s79, e, o, z⟩ := rest H9 (s8.trans s9)
          refine ⟨_, rfl, x, 4, rfl, o, by decide, z, _, rfl, rfl, _, rfl, ?_, s79⟩
          rw [e, decide_eq_true rfl]
          rfl
      rintro _ H8 ⟨rfl, s8⟩
      refine iteF ?_
      have dx8 := dx.same s8
      have sm8 := sm7.trans s8
      refine ⟨fun b H' => b = false ∧ Same H1 H', ?_, ?_⟩
      · refine ⟨_, rfl, p, 4, rfl, b7.same s8, by decide, by decide, fun z H9 z0 z1 sb9 b9 => ⟨rfl, _, rfl, ?_⟩⟩
        have dx9 := dx8.sameB sb9 fun a h => h
        have sm9 : Same H1 H9 := fun y u h => sb9 _ _ (sm8 _ _ h) (ne_of_none h n2)
        refine ite2 (fun _ => ?_) fun _ => ⟨rfl, sm9⟩
        obtain ⟨Ty, ty⟩ := dx9.ty (K := K)
        refine ⟨_, rfl, _, _, _, _, rfl, ty, kit_lst ty dx9.nf, _, rfl, ?_⟩
        cases el : lstOf H9 x with
        | none => exact iteF ⟨rfl, sm9⟩
        | some xs =>
          obtain ⟨xa, rfl, hxa⟩ := lst_at el
          refine iteT ?_
          obtain ⟨xn, hxl, hxi⟩ := dx9.items (.inl hxa)
          refine ⟨_, rfl, xa, _, rfl, .inl ⟨SqL.of hxa, fun tp ntp => ?_⟩⟩
          generalize e10 : upd H9 tp _ = H10
          have s10 := upd_sm e10 ntp
          have dt : Dv (· ≠ p) H10 [33, 8, 4, 4] (.ref tp) := .tup (b9.ne ntp) (upd_at e10) hxl fun y hy => (hxi y hy).same s10
          have sqt : SeqIn K H10 (.ref tp) := dv_seq dt (by decide)
          have sqx : SeqIn K H10 (.ref xa) := dv_seq (dx9.same s10) (by decide)
          have fe : fltOf H10 (.ref tp) = fltOf H10 (.ref xa) := flt_tup (s10 _ _ hxa) (upd_at e10)
          have sm10 := sm9.trans s10
          cases ef : fltOf H10 (.ref xa) with
          | none =>
            refine ⟨.ref tp, rfl, sqt, fun at_ why e => absurd ((fe.trans ef).symm.trans e) (by simp), fun _ H11 s11 => ?_⟩
            have f11 := (sqx.flt s11).1
            refine ⟨_, rfl, .ref xa, rfl, sqx.same s11, fun at_ why e => absurd ((f11.trans ef).symm.trans e) (by simp), fun _ H12 s12 => .inl ⟨rfl, rfl, _, rfl, rfl, (sm10.trans s11).trans s12⟩⟩
          | some aw =>
            obtain ⟨at0, why0⟩ := aw
            refine ⟨.ref tp, rfl, sqt, fun at_ why e t1 H11 s11 nt1 ht1 => ?_, fun e => absurd ((fe.trans ef).symm.trans e) (by simp)⟩
            cases (fe.trans ef).symm.trans e
            have f11 := (sqx.flt s11).1
            refine ⟨_, rfl, .ref xa, rfl, sqx.same s11, fun at_ why e t2 H12 s12 nt2 ht2 => ?_, fun e => absurd ((f11.trans ef).symm.trans e) (by simp)⟩
            cases (f11.trans ef).symm.trans e
            exact .inr ⟨t1, t2, true, rfl, rfl, alike (s12 _ _ ht1) ht2 (flt_at ef), _, rfl, rfl, (sm10.trans s11).trans s12⟩
      rintro _ H9 ⟨rfl, sm9⟩
      exact iteF ⟨sm.trans sm9, _, _, _, _, _, _, rfl⟩
    · rintro σ H1 ⟨sm, a1, a2, a3, a4, a5, a6, rfl⟩
      exact k H1
end

end K05

set_option Elab.async false
set_option linter.all false
set_option maxRecDepth 100000
set_option maxHeartbeats 4000000
namespace K05
open PySem L2
theorem all_mk {l : PySem.W.OpenLaw} {w : World} {K : PySem.W.Frag} {h : Heap} {mg : Str → Option Value} {fa : Addr} (X : K.In h) (G : h.Ns mainGlobals mg) (hfa : mg "law" = some (.ref fa))
    {C_SlackError : Addr} {o_SlackError : Obj}
    {C_BadPieces : Addr} {o_BadPieces : Obj}
    {C_Pieces : Addr}
    {f_whole_row : Addr} {od_whole_row an_whole_row : Option Addr} {sl_whole_row : Array (Option Value)} {oc_whole_row kV_whole_row dc_whole_row pm_whole_row cd_whole_row ct_whole_row : Value}
    {f_SlackError___init__ : Addr} {od_SlackError___init__ an_SlackError___init__ : Option Addr} {sl_SlackError___init__ : Array (Option Value)} {oc_SlackError___init__ kV_SlackError___init__ dc_SlackError___init__ pm_SlackError___init__ cd_SlackError___init__ ct_SlackError___init__ : Value}
    {f_BadPieces___init__ : Addr} {od_BadPieces___init__ an_BadPieces___init__ : Option Addr} {sl_BadPieces___init__ : Array (Option Value)} {oc_BadPieces___init__ kV_BadPieces___init__ dc_BadPieces___init__ pm_BadPieces___init__ cd_BadPieces___init__ ct_BadPieces___init__ : Value}
    {f_is_whole : Addr} {od_is_whole an_is_whole : Option Addr} {sl_is_whole : Array (Option Value)} {oc_is_whole kV_is_whole dc_is_whole pm_is_whole cd_is_whole ct_is_whole : Value}
    {f_is_within : Addr} {od_is_within an_is_within : Option Addr} {sl_is_within : Array (Option Value)} {oc_is_within kV_is_within dc_is_within pm_is_within cd_is_within ct_is_within : Value}
    {f_are_among : Addr} {od_are_among an_are_among : Option Addr} {sl_are_among : Array (Option Value)} {oc_are_among kV_are_among dc_are_among pm_are_among cd_are_among ct_are_among : Value}
    {f_is_name : Addr} {od_is_name an_is_name : Option Addr} {sl_is_name : Array (Option Value)} {oc_is_name kV_is_name dc_is_name pm_is_name cd_is_name ct_is_name : Value}
    {f_fault_of : Addr} {od_fault_of an_fault_of : Option Addr} {sl_fault_of : Array (Option Value)} {oc_fault_of kV_fault_of dc_fault_of pm_fault_of cd_fault_of ct_fault_of : Value}
    {f_good_rows : Addr} {od_good_rows an_good_rows : Option Addr} {sl_good_rows : Array (Option Value)} {oc_good_rows kV_good_rows dc_good_rows pm_good_rows cd_good_rows ct_good_rows : Value}
    {f_Pieces___init__ : Addr} {od_Pieces___init__ an_Pieces___init__ : Option Addr} {sl_Pieces___init__ : Array (Option Value)} {oc_Pieces___init__ kV_Pieces___init__ dc_Pieces___init__ pm_Pieces___init__ cd_Pieces___init__ ct_Pieces___init__ : Value}
    {f__law_answer : Addr} {od__law_answer an__law_answer : Option Addr} {sl__law_answer : Array (Option Value)} {oc__law_answer kV__law_answer dc__law_answer pm__law_answer cd__law_answer ct__law_answer : Value}
    {f__law_whole : Addr} {od__law_whole an__law_whole : Option Addr} {sl__law_whole : Array (Option Value)} {oc__law_whole kV__law_whole dc__law_whole pm__law_whole cd__law_whole ct__law_whole : Value}
    {f__law_row_fault : Addr} {od__law_row_fault an__law_row_fault : Option Addr} {sl__law_row_fault : Array (Option Value)} {oc__law_row_fault kV__law_row_fault dc__law_row_fault pm__law_row_fault cd__law_row_fault ct__law_row_fault : Value}
    {f__law_fault : Addr} {od__law_fault an__law_fault : Option Addr} {sl__law_fault : Array (Option Value)} {oc__law_fault kV__law_fault dc__law_fault pm__law_fault cd__law_fault ct__law_fault : Value}
    {f__law_take : Addr} {od__law_take an__law_take : Option Addr} {sl__law_take : Array (Option Value)} {oc__law_take kV__law_take dc__law_take pm__law_take cd__law_take ct__law_take : Value}
    {f__law_thing : Addr} {od__law_thing an__law_thing : Option Addr} {sl__law_thing : Array (Option Value)} {oc__law_thing kV__law_thing dc__law_thing pm__law_thing cd__law_thing ct__law_thing : Value}
    {f__law_spoilt : Addr} {od__law_spoilt an__law_spoilt : Option Addr} {sl__law_spoilt : Array (Option Value)} {oc__law_spoilt kV__law_spoilt dc__law_spoilt pm__law_spoilt cd__law_spoilt ct__law_spoilt : Value}
    {f__law_names : Addr} {od__law_names an__law_names : Option Addr} {sl__law_names : Array (Option Value)} {oc__law_names kV__law_names dc__law_names pm__law_names cd__law_names ct__law_names : Value}
    {f__law_rows : Addr} {od__law_rows an__law_rows : Option Addr} {sl__law_rows : Array (Option Value)} {oc__law_rows kV__law_rows dc__law_rows pm__law_rows cd__law_rows ct__law_rows : Value}
    {f__law_box : Addr} {od__law_box an__law_box : Option Addr} {sl__law_box : Array (Option Value)} {oc__law_box kV__law_box dc__law_box pm__law_box cd__law_box ct__law_box : Value}
    {f__law_cell : Addr} {od__law_cell an__law_cell : Option Addr} {sl__law_cell : Array (Option Value)} {oc__law_cell kV__law_cell dc__law_cell pm__law_cell cd__law_cell ct__law_cell : Value}
    {f_law : Addr} {od_law an_law : Option Addr} {sl_law : Array (Option Value)} {oc_law kV_law dc_law pm_law cd_law ct_law : Value}
    {t_LETTERS : Tok}
    {t_FIGURES : Tok}
    {t_MOST_SIGNS : Tok}
    {t_MOST_PIECES : Tok}
    {t_LAST_TURN : Tok}
    {t_MOST_LENGTH : Tok}
    (a_SlackError : PySem.W.nsIn K mainGlobals "SlackError" = some (some (.ref C_SlackError)))
    (lo_SlackError : K.lookup C_SlackError = some o_SlackError)
    (oq_SlackError : excObjOk C_SlackError o_SlackError = true)
    (is_SlackError : excIs C_SlackError (V4) o_SlackError = true)
    (sa_SlackError : PySem.W.findIn K (.ref C_SlackError) "__setattr__" = some (some (.builtin "object.__setattr__")))
    (ga_SlackError : PySem.W.findIn K (.ref C_SlackError) "__getattribute__" = some (some (.builtin "BaseException.__getattribute__")))
    (gn_SlackError : PySem.W.findIn K (.ref C_SlackError) "__getattr__" = some none)
    (mb_SlackError : PySem.W.mroIn K C_SlackError (.type "BaseException") = some true)
    (hd_SlackError : PySem.W.hasDictIn K C_SlackError = true)
    (kp_SlackError : PySem.W.keepIn K (.ref C_SlackError) = true)
    (cc_SlackError : PySem.W.findIn K (.ref C_SlackError) "__class__" = some (some (.builtin "object.__class__")))
    (mo_SlackError : PySem.W.mroIn K C_SlackError (.type "object") = some true)
    (a_BadPieces : PySem.W.nsIn K mainGlobals "BadPieces" = some (some (.ref C_BadPieces)))
    (lo_BadPieces : K.lookup C_BadPieces = some o_BadPieces)
    (oq_BadPieces : excObjOk C_BadPieces o_BadPieces = true)
    (is_BadPieces : excIs C_BadPieces (.ref C_SlackError :: (V4)) o_BadPieces = true)
    (sa_BadPieces : PySem.W.findIn K (.ref C_BadPieces) "__setattr__" = some (some (.builtin "object.__setattr__")))
    (ga_BadPieces : PySem.W.findIn K (.ref C_BadPieces) "__getattribute__" = some (some (.builtin "BaseException.__getattribute__")))
    (gn_BadPieces : PySem.W.findIn K (.ref C_BadPieces) "__getattr__" = some none)
    (mb_BadPieces : PySem.W.mroIn K C_BadPieces (.type "BaseException") = some true)
    (hd_BadPieces : PySem.W.hasDictIn K C_BadPieces = true)
    (kp_BadPieces : PySem.W.keepIn K (.ref C_BadPieces) = true)
    (cc_BadPieces : PySem.W.findIn K (.ref C_BadPieces) "__class__" = some (some (.builtin "object.__class__")))
    (mo_BadPieces : PySem.W.mroIn K C_BadPieces (.type "object") = some true)
    (na_BadPieces_at : PySem.W.findIn K (.ref C_BadPieces) "at" = some none)
    (na_BadPieces_why : PySem.W.findIn K (.ref C_BadPieces) "why" = some none)
    (a_Pieces : PySem.W.nsIn K mainGlobals "Pieces" = some (some (.ref C_Pieces)))
    (pg_Pieces : PySem.W.plainGet K C_Pieces Str.empty = true)
    (hd_Pieces : PySem.W.hasDictIn K C_Pieces = true)
    (po_Pieces : PySem.W.plainOver K C_Pieces = true)
    (sa_Pieces : PySem.W.findIn K (.ref C_Pieces) "__setattr__" = some (some (.builtin "object.__setattr__")))
    (mk_Pieces : PySem.W.makesIn K C_Pieces = true)
    (kc_Pieces : PySem.W.keepIn K (.ref C_Pieces) = true)
    (na_Pieces_held : PySem.W.findIn K (.ref C_Pieces) "held" = some none)
    (a_whole_row : PySem.W.nsIn K mainGlobals "whole_row" = some (some (.ref f_whole_row)))
    (l_whole_row : K.lookup f_whole_row = some ⟨oc_whole_row, od_whole_row, .func (PySem.W.fnOf "whole_row" "whole_row" (defArgs s_whole_row) (defBody s_whole_row) (defScope s_whole_row) .none kV_whole_row dc_whole_row pm_whole_row an_whole_row cd_whole_row ct_whole_row), sl_whole_row⟩)
    (co_whole_row : PySem.W.codeIn K cd_whole_row "whole_row" = true)
    (k_whole_row : PySem.W.keepIn K (.ref f_whole_row) = true)
    (at_SlackError___init__ : PySem.W.findIn K (.ref C_SlackError) "__init__" = some (some (.ref f_SlackError___init__)))
    (fn_SlackError___init__ : PySem.W.isFn K (.ref f_SlackError___init__) = true)
    (l_SlackError___init__ : K.lookup f_SlackError___init__ = some ⟨oc_SlackError___init__, od_SlackError___init__, .func (PySem.W.fnOf "__init__" "SlackError.__init__" (defArgs s_SlackError___init__) (defBody s_SlackError___init__) (defScope s_SlackError___init__) .none kV_SlackError___init__ dc_SlackError___init__ pm_SlackError___init__ an_SlackError___init__ cd_SlackError___init__ ct_SlackError___init__), sl_SlackError___init__⟩)
    (co_SlackError___init__ : PySem.W.codeIn K cd_SlackError___init__ "SlackError.__init__" = true)
    (k_SlackError___init__ : PySem.W.keepIn K (.ref f_SlackError___init__) = true)
    (at_BadPieces___init__ : PySem.W.findIn K (.ref C_BadPieces) "__init__" = some (some (.ref f_BadPieces___init__)))
    (fn_BadPieces___init__ : PySem.W.isFn K (.ref f_BadPieces___init__) = true)
    (l_BadPieces___init__ : K.lookup f_BadPieces___init__ = some ⟨oc_BadPieces___init__, od_BadPieces___init__, .func (PySem.W.fnOf "__init__" "BadPieces.__init__" (defArgs s_BadPieces___init__) (defBody s_BadPieces___init__) (defScope s_BadPieces___init__) .none kV_BadPieces___init__ dc_BadPieces___init__ pm_BadPieces___init__ an_BadPieces___init__ cd_BadPieces___init__ ct_BadPieces___init__), sl_BadPieces___init__⟩)
    (co_BadPieces___init__ : PySem.W.codeIn K cd_BadPieces___init__ "BadPieces.__init__" = true)
    (k_BadPieces___init__ : PySem.W.keepIn K (.ref f_BadPieces___init__) = true)
    (a_is_whole : PySem.W.nsIn K mainGlobals "is_whole" = some (some (.ref f_is_whole)))
    (l_is_whole : K.lookup f_is_whole = some ⟨oc_is_whole, od_is_whole, .func (PySem.W.fnOf "is_whole" "is_whole" (defArgs s_is_whole) (defBody s_is_whole) (defScope s_is_whole) .none kV_is_whole dc_is_whole pm_is_whole an_is_whole cd_is_whole ct_is_whole), sl_is_whole⟩)
    (co_is_whole : PySem.W.codeIn K cd_is_whole "is_whole" = true)
    (k_is_whole : PySem.W.keepIn K (.ref f_is_whole) = true)
    (a_is_within : PySem.W.nsIn K mainGlobals "is_within" = some (some (.ref f_is_within)))
    (l_is_within : K.lookup f_is_within = some ⟨oc_is_within, od_is_within, .func (PySem.W.fnOf "is_within" "is_within" (defArgs s_is_within) (defBody s_is_within) (defScope s_is_within) .none kV_is_within dc_is_within pm_is_within an_is_within cd_is_within ct_is_within), sl_is_within⟩)
    (co_is_within : PySem.W.codeIn K cd_is_within "is_within" = true)
    (k_is_within : PySem.W.keepIn K (.ref f_is_within) = true)
    (a_are_among : PySem.W.nsIn K mainGlobals "are_among" = some (some (.ref f_are_among)))
    (l_are_among : K.lookup f_are_among = some ⟨oc_are_among, od_are_among, .func (PySem.W.fnOf "are_among" "are_among" (defArgs s_are_among) (defBody s_are_among) (defScope s_are_among) .none kV_are_among dc_are_among pm_are_among an_are_among cd_are_among ct_are_among), sl_are_among⟩)
    (co_are_among : PySem.W.codeIn K cd_are_among "are_among" = true)
    (k_are_among : PySem.W.keepIn K (.ref f_are_among) = true)
    (a_is_name : PySem.W.nsIn K mainGlobals "is_name" = some (some (.ref f_is_name)))
    (l_is_name : K.lookup f_is_name = some ⟨oc_is_name, od_is_name, .func (PySem.W.fnOf "is_name" "is_name" (defArgs s_is_name) (defBody s_is_name) (defScope s_is_name) .none kV_is_name dc_is_name pm_is_name an_is_name cd_is_name ct_is_name), sl_is_name⟩)
    (co_is_name : PySem.W.codeIn K cd_is_name "is_name" = true)
    (k_is_name : PySem.W.keepIn K (.ref f_is_name) = true)
    (a_fault_of : PySem.W.nsIn K mainGlobals "fault_of" = some (some (.ref f_fault_of)))
    (l_fault_of : K.lookup f_fault_of = some ⟨oc_fault_of, od_fault_of, .func (PySem.W.fnOf "fault_of" "fault_of" (defArgs s_fault_of) (defBody s_fault_of) (defScope s_fault_of) .none kV_fault_of dc_fault_of pm_fault_of an_fault_of cd_fault_of ct_fault_of), sl_fault_of⟩)
    (co_fault_of : PySem.W.codeIn K cd_fault_of "fault_of" = true)
    (k_fault_of : PySem.W.keepIn K (.ref f_fault_of) = true)
    (a_good_rows : PySem.W.nsIn K mainGlobals "good_rows" = some (some (.ref f_good_rows)))
    (l_good_rows : K.lookup f_good_rows = some ⟨oc_good_rows, od_good_rows, .func (PySem.W.fnOf "good_rows" "good_rows" (defArgs s_good_rows) (defBody s_good_rows) (defScope s_good_rows) .none kV_good_rows dc_good_rows pm_good_rows an_good_rows cd_good_rows ct_good_rows), sl_good_rows⟩)
    (co_good_rows : PySem.W.codeIn K cd_good_rows "good_rows" = true)
    (k_good_rows : PySem.W.keepIn K (.ref f_good_rows) = true)
    (at_Pieces___init__ : PySem.W.findIn K (.ref C_Pieces) "__init__" = some (some (.ref f_Pieces___init__)))
    (fn_Pieces___init__ : PySem.W.isFn K (.ref f_Pieces___init__) = true)
    (l_Pieces___init__ : K.lookup f_Pieces___init__ = some ⟨oc_Pieces___init__, od_Pieces___init__, .func (PySem.W.fnOf "__init__" "Pieces.__init__" (defArgs s_Pieces___init__) (defBody s_Pieces___init__) (defScope s_Pieces___init__) .none kV_Pieces___init__ dc_Pieces___init__ pm_Pieces___init__ an_Pieces___init__ cd_Pieces___init__ ct_Pieces___init__), sl_Pieces___init__⟩)
    (co_Pieces___init__ : PySem.W.codeIn K cd_Pieces___init__ "Pieces.__init__" = true)
    (k_Pieces___init__ : PySem.W.keepIn K (.ref f_Pieces___init__) = true)
    (a__law_answer : PySem.W.nsIn K mainGlobals "_law_answer" = some (some (.ref f__law_answer)))
    (l__law_answer : K.lookup f__law_answer = some ⟨oc__law_answer, od__law_answer, .func (PySem.W.fnOf "_law_answer" "_law_answer" (defArgs s__law_answer) (defBody s__law_answer) (defScope s__law_answer) .none kV__law_answer dc__law_answer pm__law_answer an__law_answer cd__law_answer ct__law_answer), sl__law_answer⟩)
    (co__law_answer : PySem.W.codeIn K cd__law_answer "_law_answer" = true)
    (k__law_answer : PySem.W.keepIn K (.ref f__law_answer) = true)
    (a__law_whole : PySem.W.nsIn K mainGlobals "_law_whole" = some (some (.ref f__law_whole)))
    (l__law_whole : K.lookup f__law_whole = some ⟨oc__law_whole, od__law_whole, .func (PySem.W.fnOf "_law_whole" "_law_whole" (defArgs s__law_whole) (defBody s__law_whole) (defScope s__law_whole) .none kV__law_whole dc__law_whole pm__law_whole an__law_whole cd__law_whole ct__law_whole), sl__law_whole⟩)
    (co__law_whole : PySem.W.codeIn K cd__law_whole "_law_whole" = true)
    (k__law_whole : PySem.W.keepIn K (.ref f__law_whole) = true)
    (a__law_row_fault : PySem.W.nsIn K mainGlobals "_law_row_fault" = some (some (.ref f__law_row_fault)))
    (l__law_row_fault : K.lookup f__law_row_fault = some ⟨oc__law_row_fault, od__law_row_fault, .func (PySem.W.fnOf "_law_row_fault" "_law_row_fault" (defArgs s__law_row_fault) (defBody s__law_row_fault) (defScope s__law_row_fault) .none kV__law_row_fault dc__law_row_fault pm__law_row_fault an__law_row_fault cd__law_row_fault ct__law_row_fault), sl__law_row_fault⟩)
    (co__law_row_fault : PySem.W.codeIn K cd__law_row_fault "_law_row_fault" = true)
    (k__law_row_fault : PySem.W.keepIn K (.ref f__law_row_fault) = true)
    (a__law_fault : PySem.W.nsIn K mainGlobals "_law_fault" = some (some (.ref f__law_fault)))
    (l__law_fault : K.lookup f__law_fault = some ⟨oc__law_fault, od__law_fault, .func (PySem.W.fnOf "_law_fault" "_law_fault" (defArgs s__law_fault) (defBody s__law_fault) (defScope s__law_fault) .none kV__law_fault dc__law_fault pm__law_fault an__law_fault cd__law_fault ct__law_fault), sl__law_fault⟩)
    (co__law_fault : PySem.W.codeIn K cd__law_fault "_law_fault" = true)
    (k__law_fault : PySem.W.keepIn K (.ref f__law_fault) = true)
    (a__law_take : PySem.W.nsIn K mainGlobals "_law_take" = some (some (.ref f__law_take)))
    (l__law_take : K.lookup f__law_take = some ⟨oc__law_take, od__law_take, .func (PySem.W.fnOf "_law_take" "_law_take" (defArgs s__law_take) (defBody s__law_take) (defScope s__law_take) .none kV__law_take dc__law_take pm__law_take an__law_take cd__law_take ct__law_take), sl__law_take⟩)
    (co__law_take : PySem.W.codeIn K cd__law_take "_law_take" = true)
    (k__law_take : PySem.W.keepIn K (.ref f__law_take) = true)
    (a__law_thing : PySem.W.nsIn K mainGlobals "_law_thing" = some (some (.ref f__law_thing)))
    (l__law_thing : K.lookup f__law_thing = some ⟨oc__law_thing, od__law_thing, .func (PySem.W.fnOf "_law_thing" "_law_thing" (defArgs s__law_thing) (defBody s__law_thing) (defScope s__law_thing) .none kV__law_thing dc__law_thing pm__law_thing an__law_thing cd__law_thing ct__law_thing), sl__law_thing⟩)
    (co__law_thing : PySem.W.codeIn K cd__law_thing "_law_thing" = true)
    (k__law_thing : PySem.W.keepIn K (.ref f__law_thing) = true)
    (a__law_spoilt : PySem.W.nsIn K mainGlobals "_law_spoilt" = some (some (.ref f__law_spoilt)))
    (l__law_spoilt : K.lookup f__law_spoilt = some ⟨oc__law_spoilt, od__law_spoilt, .func (PySem.W.fnOf "_law_spoilt" "_law_spoilt" (defArgs s__law_spoilt) (defBody s__law_spoilt) (defScope s__law_spoilt) .none kV__law_spoilt dc__law_spoilt pm__law_spoilt an__law_spoilt cd__law_spoilt ct__law_spoilt), sl__law_spoilt⟩)
    (co__law_spoilt : PySem.W.codeIn K cd__law_spoilt "_law_spoilt" = true)
    (k__law_spoilt : PySem.W.keepIn K (.ref f__law_spoilt) = true)
    (a__law_names : PySem.W.nsIn K mainGlobals "_law_names" = some (some (.ref f__law_names)))
    (l__law_names : K.lookup f__law_names = some ⟨oc__law_names, od__law_names, .func (PySem.W.fnOf "_law_names" "_law_names" (defArgs s__law_names) (defBody s__law_names) (defScope s__law_names) .none kV__law_names dc__law_names pm__law_names an__law_names cd__law_names ct__law_names), sl__law_names⟩)
    (co__law_names : PySem.W.codeIn K cd__law_names "_law_names" = true)
    (k__law_names : PySem.W.keepIn K (.ref f__law_names) = true)
    (a__law_rows : PySem.W.nsIn K mainGlobals "_law_rows" = some (some (.ref f__law_rows)))
    (l__law_rows : K.lookup f__law_rows = some ⟨oc__law_rows, od__law_rows, .func (PySem.W.fnOf "_law_rows" "_law_rows" (defArgs s__law_rows) (defBody s__law_rows) (defScope s__law_rows) .none kV__law_rows dc__law_rows pm__law_rows an__law_rows cd__law_rows ct__law_rows), sl__law_rows⟩)
    (co__law_rows : PySem.W.codeIn K cd__law_rows "_law_rows" = true)
    (k__law_rows : PySem.W.keepIn K (.ref f__law_rows) = true)
    (a__law_box : PySem.W.nsIn K mainGlobals "_law_box" = some (some (.ref f__law_box)))
    (l__law_box : K.lookup f__law_box = some ⟨oc__law_box, od__law_box, .func (PySem.W.fnOf "_law_box" "_law_box" (defArgs s__law_box) (defBody s__law_box) (defScope s__law_box) .none kV__law_box dc__law_box pm__law_box an__law_box cd__law_box ct__law_box), sl__law_box⟩)
    (co__law_box : PySem.W.codeIn K cd__law_box "_law_box" = true)
    (k__law_box : PySem.W.keepIn K (.ref f__law_box) = true)
    (a__law_cell : PySem.W.nsIn K mainGlobals "_law_cell" = some (some (.ref f__law_cell)))
    (l__law_cell : K.lookup f__law_cell = some ⟨oc__law_cell, od__law_cell, .func (PySem.W.fnOf "_law_cell" "_law_cell" (defArgs s__law_cell) (defBody s__law_cell) (defScope s__law_cell) .none kV__law_cell dc__law_cell pm__law_cell an__law_cell cd__law_cell ct__law_cell), sl__law_cell⟩)
    (co__law_cell : PySem.W.codeIn K cd__law_cell "_law_cell" = true)
    (k__law_cell : PySem.W.keepIn K (.ref f__law_cell) = true)
    (a_law : PySem.W.nsIn K mainGlobals "law" = some (some (.ref f_law)))
    (l_law : K.lookup f_law = some ⟨oc_law, od_law, .func (PySem.W.fnOf "law" "law" (defArgs s_law) (defBody s_law) (defScope s_law) .none kV_law dc_law pm_law an_law cd_law ct_law), sl_law⟩)
    (co_law : PySem.W.codeIn K cd_law "law" = true)
    (k_law : PySem.W.keepIn K (.ref f_law) = true)
    (cg : PySem.W.specialIn K (.ref C_SlackError) "__getattribute__" = some (some (.builtin "type.__getattribute__")))
    (cr : PySem.W.readsIn K C_SlackError (.type "type") = true)
    (cf : PySem.W.findCls K (.ref C_SlackError) (.type "type") "__init__" = some (.val (.ref f_SlackError___init__)))
    (nd : [C_SlackError, C_BadPieces].Nodup)
    (z_ValueError : PySem.W.nsIn K mainGlobals "ValueError" = some none)
    (z_all : PySem.W.nsIn K mainGlobals "all" = some none)
    (z_bool : PySem.W.nsIn K mainGlobals "bool" = some none)
    (z_enumerate : PySem.W.nsIn K mainGlobals "enumerate" = some none)
    (z_int : PySem.W.nsIn K mainGlobals "int" = some none)
    (z_isinstance : PySem.W.nsIn K mainGlobals "isinstance" = some none)
    (z_len : PySem.W.nsIn K mainGlobals "len" = some none)
    (z_list : PySem.W.nsIn K mainGlobals "list" = some none)
    (z_max : PySem.W.nsIn K mainGlobals "max" = some none)
    (z_min : PySem.W.nsIn K mainGlobals "min" = some none)
    (z_range : PySem.W.nsIn K mainGlobals "range" = some none)
    (z_repr : PySem.W.nsIn K mainGlobals "repr" = some none)
    (z_str : PySem.W.nsIn K mainGlobals "str" = some none)
    (z_tuple : PySem.W.nsIn K mainGlobals "tuple" = some none)
    (g_LETTERS : PySem.W.nsIn K mainGlobals "LETTERS" = some (some (.str LET t_LETTERS)))
    (g_FIGURES : PySem.W.nsIn K mainGlobals "FIGURES" = some (some (.str FIG t_FIGURES)))
    (g_MOST_SIGNS : PySem.W.nsIn K mainGlobals "MOST_SIGNS" = some (some (.int 8 t_MOST_SIGNS)))
    (g_MOST_PIECES : PySem.W.nsIn K mainGlobals "MOST_PIECES" = some (some (.int 30 t_MOST_PIECES)))
    (g_LAST_TURN : PySem.W.nsIn K mainGlobals "LAST_TURN" = some (some (.int 199 t_LAST_TURN)))
    (g_MOST_LENGTH : PySem.W.nsIn K mainGlobals "MOST_LENGTH" = some (some (.int 12 t_MOST_LENGTH))) :
    ∃ fd : FuncData, (∀ (s : Shared) (v : Value), BindsTo s fd ⟨[v], []⟩ [("_law_script", v)]) ∧ ∀ base : Heap, K.In base → base.Ns mainGlobals mg → FnOk l.prog w K mg base CX0 9 fa fd ["_law_script"] (sp_law K) := by
  have e := hfa.symm.trans (PySem.W.mg_of X G a_law)
  cases e
  have x_SlackError : XCls K C_SlackError := ⟨⟨_, lo_SlackError, oq_SlackError⟩, sa_SlackError, ga_SlackError, gn_SlackError, mb_SlackError, hd_SlackError, kp_SlackError, cc_SlackError, mo_SlackError⟩
  have x_BadPieces : XCls K C_BadPieces := ⟨⟨_, lo_BadPieces, oq_BadPieces⟩, sa_BadPieces, ga_BadPieces, gn_BadPieces, mb_BadPieces, hd_BadPieces, kp_BadPieces, cc_BadPieces, mo_BadPieces⟩
  have T : Txt K mg (⟨C_SlackError, C_BadPieces, (0 : Addr), C_Pieces⟩ : Ad) := ⟨PySem.W.mg_none_of X G z_ValueError, PySem.W.mg_none_of X G z_all, PySem.W.mg_none_of X G z_bool, PySem.W.mg_none_of X G z_enumerate, PySem.W.mg_none_of X G z_int, PySem.W.mg_none_of X G z_isinstance, PySem.W.mg_none_of X G z_len, PySem.W.mg_none_of X G z_list, PySem.W.mg_none_of X G z_max, PySem.W.mg_none_of X G z_min, PySem.W.mg_none_of X G z_range, PySem.W.mg_none_of X G z_repr, PySem.W.mg_none_of X G z_str, PySem.W.mg_none_of X G z_tuple, ⟨_, PySem.W.mg_of X G g_LETTERS, ⟨_, rfl⟩⟩, ⟨_, PySem.W.mg_of X G g_FIGURES, ⟨_, rfl⟩⟩, ⟨_, PySem.W.mg_of X G g_MOST_SIGNS, ⟨_, rfl⟩⟩, ⟨_, PySem.W.mg_of X G g_MOST_PIECES, ⟨_, rfl⟩⟩, ⟨_, PySem.W.mg_of X G g_LAST_TURN, ⟨_, rfl⟩⟩, ⟨_, PySem.W.mg_of X G g_MOST_LENGTH, ⟨_, rfl⟩⟩, PySem.W.mg_of X G a_SlackError, PySem.W.mg_of X G a_BadPieces, PySem.W.mg_of X G a_Pieces, x_SlackError, ⟨_, lo_SlackError, is_SlackError⟩, x_BadPieces, ⟨_, lo_BadPieces, is_BadPieces⟩, na_BadPieces_at, na_BadPieces_why, ⟨pg_Pieces, hd_Pieces, po_Pieces, sa_Pieces⟩, na_Pieces_held, nd⟩
  have F_whole_row := fun_mk (st := s_whole_row) l_whole_row co_whole_row k_whole_row
  have b_whole_row := F_whole_row.binds (ps := ["row"]) fun _ _ _ _ _ _ us hl => match us, hl with | [_], _ => rfl
  have F_SlackError___init__ := fun_mk (st := s_SlackError___init__) l_SlackError___init__ co_SlackError___init__ k_SlackError___init__
  have b_SlackError___init__ := F_SlackError___init__.binds (ps := ["self", "text"]) fun _ _ _ _ _ _ us hl => match us, hl with | [_, _], _ => rfl
  have F_BadPieces___init__ := fun_mk (st := s_BadPieces___init__) l_BadPieces___init__ co_BadPieces___init__ k_BadPieces___init__
  have b_BadPieces___init__ := F_BadPieces___init__.binds (ps := ["self", "at", "why"]) fun _ _ _ _ _ _ us hl => match us, hl with | [_, _, _], _ => rfl
  have F_is_whole := fun_mk (st := s_is_whole) l_is_whole co_is_whole k_is_whole
  have b_is_whole := F_is_whole.binds (ps := ["thing"]) fun _ _ _ _ _ _ us hl => match us, hl with | [_], _ => rfl
  have F_is_within := fun_mk (st := s_is_within) l_is_within co_is_within k_is_within
  have b_is_within := F_is_within.binds (ps := ["thing", "low", "high"]) fun _ _ _ _ _ _ us hl => match us, hl with | [_, _, _], _ => rfl
  have F_are_among := fun_mk (st := s_are_among) l_are_among co_are_among k_are_among
  have b_are_among := F_are_among.binds (ps := ["text", "signs"]) fun _ _ _ _ _ _ us hl => match us, hl with | [_, _], _ => rfl
  have F_is_name := fun_mk (st := s_is_name) l_is_name co_is_name k_is_name
  have b_is_name := F_is_name.binds (ps := ["thing"]) fun _ _ _ _ _ _ us hl => match us, hl with | [_], _ => rfl
  have F_fault_of := fun_mk (st := s_fault_of) l_fault_of co_fault_of k_fault_of
  have b_fault_of := F_fault_of.binds (ps := ["row", "ahead"]) fun _ _ _ _ _ _ us hl => match us, hl with | [_, _], _ => rfl
  have F_good_rows := fun_mk (st := s_good_rows) l_good_rows co_good_rows k_good_rows
  have b_good_rows := F_good_rows.binds (ps := ["rows"]) fun _ _ _ _ _ _ us hl => match us, hl with | [_], _ => rfl
  have F_Pieces___init__ := fun_mk (st := s_Pieces___init__) l_Pieces___init__ co_Pieces___init__ k_Pieces___init__
  have b_Pieces___init__ := F_Pieces___init__.binds (ps := ["self", "rows"]) fun _ _ _ _ _ _ us hl => match us, hl with | [_, _], _ => rfl
  have F__law_answer := fun_mk (st := s__law_answer) l__law_answer co__law_answer k__law_answer
  have b__law_answer := F__law_answer.binds (ps := ["_law_thing_here"]) fun _ _ _ _ _ _ us hl => match us, hl with | [_], _ => rfl
  have F__law_whole := fun_mk (st := s__law_whole) l__law_whole co__law_whole k__law_whole
  have b__law_whole := F__law_whole.binds (ps := ["_law_thing_here"]) fun _ _ _ _ _ _ us hl => match us, hl with | [_], _ => rfl
  have F__law_row_fault := fun_mk (st := s__law_row_fault) l__law_row_fault co__law_row_fault k__law_row_fault
  have b__law_row_fault := F__law_row_fault.binds (ps := ["_law_known", "_law_row"]) fun _ _ _ _ _ _ us hl => match us, hl with | [_, _], _ => rfl
  have F__law_fault := fun_mk (st := s__law_fault) l__law_fault co__law_fault k__law_fault
  have b__law_fault := F__law_fault.binds (ps := ["_law_thing_here"]) fun _ _ _ _ _ _ us hl => match us, hl with | [_], _ => rfl
  have F__law_take := fun_mk (st := s__law_take) l__law_take co__law_take k__law_take
  have b__law_take := F__law_take.binds (ps := ["_law_box_here", "_law_many"]) fun _ _ _ _ _ _ us hl => match us, hl with | [_, _], _ => rfl
  have F__law_thing := fun_mk (st := s__law_thing) l__law_thing co__law_thing k__law_thing
  have b__law_thing := F__law_thing.binds (ps := ["_law_box_here"]) fun _ _ _ _ _ _ us hl => match us, hl with | [_], _ => rfl
  have F__law_spoilt := fun_mk (st := s__law_spoilt) l__law_spoilt co__law_spoilt k__law_spoilt
  have b__law_spoilt := F__law_spoilt.binds (ps := ["_law_box_here", "_law_rows_here"]) fun _ _ _ _ _ _ us hl => match us, hl with | [_, _], _ => rfl
  have F__law_names := fun_mk (st := s__law_names) l__law_names co__law_names k__law_names
  have b__law_names := F__law_names.binds (ps := ["_law_box_here", "_law_many"]) fun _ _ _ _ _ _ us hl => match us, hl with | [_, _], _ => rfl
  have F__law_rows := fun_mk (st := s__law_rows) l__law_rows co__law_rows k__law_rows
  have b__law_rows := F__law_rows.binds (ps := ["_law_box_here", "_law_most"]) fun _ _ _ _ _ _ us hl => match us, hl with | [_, _], _ => rfl
  have F__law_box := fun_mk (st := s__law_box) l__law_box co__law_box k__law_box
  have b__law_box := F__law_box.binds (ps := ["_law_cell_here"]) fun _ _ _ _ _ _ us hl => match us, hl with | [_], _ => rfl
  have F__law_cell := fun_mk (st := s__law_cell) l__law_cell co__law_cell k__law_cell
  have b__law_cell := F__law_cell.binds (ps := ["_law_script", "_law_k"]) fun _ _ _ _ _ _ us hl => match us, hl with | [_, _], _ => rfl
  have F_law := fun_mk (st := s_law) l_law co_law k_law
  have b_law := F_law.binds (ps := ["_law_script"]) fun _ _ _ _ _ _ us hl => match us, hl with | [_], _ => rfl
  refine ⟨PySem.W.fnOf "law" "law" (defArgs s_law) (defBody s_law) (defScope s_law) .none kV_law dc_law pm_law an_law cd_law ct_law, fun s v => .of_eq rfl, fun base _ _ => ?_⟩
  have cm : ClsM K C_SlackError "__init__" f_SlackError___init__ := ⟨cg, cr, cf, k_SlackError___init__⟩
  have GS : FnOk l.prog w K mg base CX0 1 f_SlackError___init__ _ ["self", "text"] (sp_slack K) := ok_SlackError F_SlackError___init__ T.b_ValueError
  have c_whole_row : CalF l.prog w K mg base 1 "whole_row" ["row"] (sp_whole_row) := ⟨_, _, ok_whole_row F_whole_row T , PySem.W.mg_of X G a_whole_row, F_whole_row.kp, b_whole_row⟩
  have c_BadPieces : CalX l.prog w K mg base 2 "BadPieces" C_BadPieces ["self", "at", "why"] (sp_two C_BadPieces "at" "why") := ⟨⟨_, _, ok_BadPieces F_BadPieces___init__ (PySem.W.mg_of X G a_SlackError) x_BadPieces na_BadPieces_at na_BadPieces_why cm GS b_SlackError___init__, at_BadPieces___init__, beq_iff_eq.mp fn_BadPieces___init__, b_BadPieces___init__⟩, x_BadPieces, PySem.W.mg_of X G a_BadPieces, by decide⟩
  have c_is_whole : CalF l.prog w K mg base 1 "is_whole" ["thing"] (sp_whole K) := ⟨_, _, ok_is_whole F_is_whole T , PySem.W.mg_of X G a_is_whole, F_is_whole.kp, b_is_whole⟩
  have c_is_within : CalF l.prog w K mg base 2 "is_within" ["thing", "low", "high"] (sp_within K) := ⟨_, _, ok_is_within F_is_within T c_is_whole, PySem.W.mg_of X G a_is_within, F_is_within.kp, b_is_within⟩
  have c_are_among : CalF l.prog w K mg base 1 "are_among" ["text", "signs"] (sp_among) := ⟨_, _, ok_are_among F_are_among T , PySem.W.mg_of X G a_are_among, F_are_among.kp, b_are_among⟩
  have c_is_name : CalF l.prog w K mg base 3 "is_name" ["thing"] (sp_name K) := ⟨_, _, ok_is_name F_is_name T c_are_among c_is_within, PySem.W.mg_of X G a_is_name, F_is_name.kp, b_is_name⟩
  have c_fault_of : CalF l.prog w K mg base 4 "fault_of" ["row", "ahead"] (sp_fault K) := ⟨_, _, ok_fault_of F_fault_of T c_is_within c_is_name, PySem.W.mg_of X G a_fault_of, F_fault_of.kp, b_fault_of⟩
  have c_good_rows : CalR l.prog w K mg base 5 "good_rows" ["rows"] (sp_good K (⟨C_SlackError, C_BadPieces, (0 : Addr), C_Pieces⟩ : Ad)) := ⟨_, _, ok_good_rows F_good_rows T c_whole_row c_BadPieces c_fault_of, PySem.W.mg_of X G a_good_rows, F_good_rows.kp, b_good_rows⟩
  have c_Pieces : CalM l.prog w K mg base (CXF l.prog w) 6 "Pieces" C_Pieces ["self", "rows"] (sp_Pinit K (⟨C_SlackError, C_BadPieces, (0 : Addr), C_Pieces⟩ : Ad)) := ⟨⟨_, _, ok_Pieces___init__ F_Pieces___init__ T c_good_rows, ⟨mk_Pieces, at_Pieces___init__, fn_Pieces___init__, kc_Pieces⟩, b_Pieces___init__⟩, PySem.W.mg_of X G a_Pieces⟩
  have c__law_answer : CalF l.prog w K mg base 8 "_law_answer" ["_law_thing_here"] (sp_lflt K) := ⟨_, _, ok__law_answer F__law_answer T c_Pieces, PySem.W.mg_of X G a__law_answer, F__law_answer.kp, b__law_answer⟩
  have c__law_whole : CalF l.prog w K mg base 1 "_law_whole" ["_law_thing_here"] (sp_whole K) := ⟨_, _, ok__law_whole F__law_whole T , PySem.W.mg_of X G a__law_whole, F__law_whole.kp, b__law_whole⟩
  have c__law_row_fault : CalF l.prog w K mg base 2 "_law_row_fault" ["_law_known", "_law_row"] (sp_lfault K) := ⟨_, _, ok__law_row_fault F__law_row_fault T c__law_whole, PySem.W.mg_of X G a__law_row_fault, F__law_row_fault.kp, b__law_row_fault⟩
  have c__law_fault : CalF l.prog w K mg base 3 "_law_fault" ["_law_thing_here"] (sp_lflt K) := ⟨_, _, ok__law_fault F__law_fault T c__law_row_fault, PySem.W.mg_of X G a__law_fault, F__law_fault.kp, b__law_fault⟩
  have c__law_take : CalF l.prog w K mg base 1 "_law_take" ["_law_box_here", "_law_many"] (sp_take) := ⟨_, _, ok__law_take F__law_take T , PySem.W.mg_of X G a__law_take, F__law_take.kp, b__law_take⟩
  have c__law_thing : CalF l.prog w K mg base 2 "_law_thing" ["_law_box_here"] (sp_thing) := ⟨_, _, ok__law_thing F__law_thing T c__law_take, PySem.W.mg_of X G a__law_thing, F__law_thing.kp, b__law_thing⟩
  have c__law_spoilt : CalF l.prog w K mg base 3 "_law_spoilt" ["_law_box_here", "_law_rows_here"] (sp_spoilt) := ⟨_, _, ok__law_spoilt F__law_spoilt T c__law_take c__law_thing, PySem.W.mg_of X G a__law_spoilt, F__law_spoilt.kp, b__law_spoilt⟩
  have c__law_names : CalF l.prog w K mg base 2 "_law_names" ["_law_box_here", "_law_many"] (sp_lnames) := ⟨_, _, ok__law_names F__law_names T c__law_take, PySem.W.mg_of X G a__law_names, F__law_names.kp, b__law_names⟩
  have c__law_rows : CalF l.prog w K mg base 3 "_law_rows" ["_law_box_here", "_law_most"] (sp_lrows) := ⟨_, _, ok__law_rows F__law_rows T c__law_names c__law_take, PySem.W.mg_of X G a__law_rows, F__law_rows.kp, b__law_rows⟩
  have c__law_box : CalF l.prog w K mg base 1 "_law_box" ["_law_cell_here"] (sp_box) := ⟨_, _, ok__law_box F__law_box T , PySem.W.mg_of X G a__law_box, F__law_box.kp, b__law_box⟩
  have c__law_cell : CalF l.prog w K mg base 1 "_law_cell" ["_law_script", "_law_k"] (sp_cell K) := ⟨_, _, ok__law_cell F__law_cell T , PySem.W.mg_of X G a__law_cell, F__law_cell.kp, b__law_cell⟩
  exact ok_law F_law T c__law_answer c__law_fault c__law_take c__law_spoilt c__law_rows c__law_box c__law_cell
theorem walk {l : PySem.W.OpenLaw} {q : Program} {loose : List Str} {XP : (Str → Option Value) → Heap → Prop} {YP : World → Heap → Prop} {d : DefRec} {K : Params → PySem.W.Frag} (hn : l.most = some 63) (hdf : d.params.defaults = [])
    (hY : ∀ (w : World) (h : Heap), YP w h → (K w.params).In h)
    (F : ∀ (w : World) (mg : Str → Option Value) (fa : Addr) (h : Heap), (K w.params).In h → h.Ns mainGlobals mg → mg d.name = some (.ref fa) →
      ∃ fd : FuncData, (∀ (s : Shared) (u : Value), BindsTo s fd ⟨[u], []⟩ [("_law_script", u)]) ∧ ∀ base : Heap, (K w.params).In base → base.Ns mainGlobals mg → FnOk l.prog w (K w.params) mg base CX0 9 fa fd ["_law_script"] (sp_law (K w.params))) :
    PySem.W.WalkO q loose XP YP l.row.toRowW d [] (fun f vs => PySem.call f vs) :=
  L2.walk_of (n := 63) (k := 9) (x := "_law_script") (CX := fun _ => CX0) (sp := fun w => sp_law (K w.params)) hn (by decide) hdf ⟨rfl, by decide, by decide, rfl⟩ hY F (fun _ H a ns hl hO hS => ⟨a, ns, rfl, hS, only_no hO a, hl, fun _ => rfl⟩) fun _ _ _ _ _ z => z
end K05

set_option Elab.async false
set_option linter.all false
set_option maxRecDepth 100000
open PySem PySem.W PyProof.Rows
set_option maxRecDepth 100000 in
set_option maxHeartbeats 0 in
theorem PySem.Challenge.cw_failslack_k05_two_faults_at_once_holds : PySem.Challenge.rw_failslack_k05_two_faults_at_once.Holds := by
  w_on; o_law; k_head; (case hw => w_witness2)
  k_fill
  refine K05.walk (l := PySem.Challenge.rw_failslack_k05_two_faults_at_once) rfl rfl (fun w h Y => PySem.W.kIn_of Y) ?F
  case F =>
    intro w mg fa h KX G hmg
    refine' K05.all_mk KX G hmg ?a_SlackError ?lo_SlackError ?oq_SlackError ?is_SlackError ?sa_SlackError ?ga_SlackError ?gn_SlackError ?mb_SlackError ?hd_SlackError ?kp_SlackError ?cc_SlackError ?mo_SlackError ?a_BadPieces ?lo_BadPieces ?oq_BadPieces ?is_BadPieces ?sa_BadPieces ?ga_BadPieces ?gn_BadPieces ?mb_BadPieces ?hd_BadPieces ?kp_BadPieces ?cc_BadPieces ?mo_BadPieces ?na_BadPieces_at ?na_BadPieces_why ?a_Pieces ?pg_Pieces ?hd_Pieces ?po_Pieces ?sa_Pieces ?mk_Pieces ?kc_Pieces ?na_Pieces_held ?a_whole_row ?l_whole_row ?co_whole_row ?k_whole_row ?at_SlackError___init__ ?fn_SlackError___init__ ?l_SlackError___init__ ?co_SlackError___init__ ?k_SlackError___init__ ?at_BadPieces___init__ ?fn_BadPieces___init__ ?l_BadPieces___init__ ?co_BadPieces___init__ ?k_BadPieces___init__ ?a_is_whole ?l_is_whole ?co_is_whole ?k_is_whole ?a_is_within ?l_is_within ?co_is_within ?k_is_within ?a_are_among ?l_are_among ?co_are_among ?k_are_among ?a_is_name ?l_is_name ?co_is_name ?k_is_name ?a_fault_of ?l_fault_of ?co_fault_of ?k_fault_of ?a_good_rows ?l_good_rows ?co_good_rows ?k_good_rows ?at_Pieces___init__ ?fn_Pieces___init__ ?l_Pieces___init__ ?co_Pieces___init__ ?k_Pieces___init__ ?a__law_answer ?l__law_answer ?co__law_answer ?k__law_answer ?a__law_whole ?l__law_whole ?co__law_whole ?k__law_whole ?a__law_row_fault ?l__law_row_fault ?co__law_row_fault ?k__law_row_fault ?a__law_fault ?l__law_fault ?co__law_fault ?k__law_fault ?a__law_take ?l__law_take ?co__law_take ?k__law_take ?a__law_thing ?l__law_thing ?co__law_thing ?k__law_thing ?a__law_spoilt ?l__law_spoilt ?co__law_spoilt ?k__law_spoilt ?a__law_names ?l__law_names ?co__law_names ?k__law_names ?a__law_rows ?l__law_rows ?co__law_rows ?k__law_rows ?a__law_box ?l__law_box ?co__law_box ?k__law_box ?a__law_cell ?l__law_cell ?co__law_cell ?k__law_cell ?a_law ?l_law ?co_law ?k_law ?cg ?cr ?cf ?nd ?z_ValueError ?z_all ?z_bool ?z_enumerate ?z_int ?z_isinstance ?z_len ?z_list ?z_max ?z_min ?z_range ?z_repr ?z_str ?z_tuple ?g_LETTERS ?g_FIGURES ?g_MOST_SIGNS ?g_MOST_PIECES ?g_LAST_TURN ?g_MOST_LENGTH
    (case a_SlackError => k_is)
    (case lo_SlackError => k_is)
    (case oq_SlackError => decide +kernel)
    (case is_SlackError => decide +kernel)
    (case sa_SlackError => k_is)
    (case ga_SlackError => k_is)
    (case gn_SlackError => k_is)
    (case mb_SlackError => k_is)
    (case hd_SlackError => k_is)
    (case kp_SlackError => k_is)
    (case cc_SlackError => k_is)
    (case mo_SlackError => k_is)
    (case a_BadPieces => k_is)
    (case lo_BadPieces => k_is)
    (case oq_BadPieces => decide +kernel)
    (case is_BadPieces => decide +kernel)
    (case sa_BadPieces => k_is)
    (case ga_BadPieces => k_is)
    (case gn_BadPieces => k_is)
    (case mb_BadPieces => k_is)
    (case hd_BadPieces => k_is)
    (case kp_BadPieces => k_is)
    (case cc_BadPieces => k_is)
    (case mo_BadPieces => k_is)
    (case na_BadPieces_at => k_is)
    (case na_BadPieces_why => k_is)
    (case a_Pieces => k_is)
    (case pg_Pieces => k_is)
    (case hd_Pieces => k_is)
    (case po_Pieces => k_is)
    (case sa_Pieces => k_is)
    (case mk_Pieces => k_is)
    (case kc_Pieces => k_is)
    (case na_Pieces_held => k_is)
    (case a_whole_row => k_is)
    (case l_whole_row => k_is)
    (case co_whole_row => k_is)
    (case k_whole_row => k_is)
    (case at_SlackError___init__ => k_is)
    (case fn_SlackError___init__ => k_is)
    (case l_SlackError___init__ => k_is)
    (case co_SlackError___init__ => k_is)
    (case k_SlackError___init__ => k_is)
    (case at_BadPieces___init__ => k_is)
    (case fn_BadPieces___init__ => k_is)
    (case l_BadPieces___init__ => k_is)
    (case co_BadPieces___init__ => k_is)
    (case k_BadPieces___init__ => k_is)
    (case a_is_whole => k_is)
    (case l_is_whole => k_is)
    (case co_is_whole => k_is)
    (case k_is_whole => k_is)
    (case a_is_within => k_is)
    (case l_is_within => k_is)
    (case co_is_within => k_is)
    (case k_is_within => k_is)
    (case a_are_among => k_is)
    (case l_are_among => k_is)
    (case co_are_among => k_is)
    (case k_are_among => k_is)
    (case a_is_name => k_is)
    (case l_is_name => k_is)
    (case co_is_name => k_is)
    (case k_is_name => k_is)
    (case a_fault_of => k_is)
    (case l_fault_of => k_is)
    (case co_fault_of => k_is)
    (case k_fault_of => k_is)
    (case a_good_rows => k_is)
    (case l_good_rows => k_is)
    (case co_good_rows => k_is)
    (case k_good_rows => k_is)
    (case at_Pieces___init__ => k_is)
    (case fn_Pieces___init__ => k_is)
    (case l_Pieces___init__ => k_is)
    (case co_Pieces___init__ => k_is)
    (case k_Pieces___init__ => k_is)
    (case a__law_answer => k_is)
    (case l__law_answer => k_is)
    (case co__law_answer => k_is)
    (case k__law_answer => k_is)
    (case a__law_whole => k_is)
    (case l__law_whole => k_is)
    (case co__law_whole => k_is)
    (case k__law_whole => k_is)
    (case a__law_row_fault => k_is)
    (case l__law_row_fault => k_is)
    (case co__law_row_fault => k_is)
    (case k__law_row_fault => k_is)
    (case a__law_fault => k_is)
    (case l__law_fault => k_is)
    (case co__law_fault => k_is)
    (case k__law_fault => k_is)
    (case a__law_take => k_is)
    (case l__law_take => k_is)
    (case co__law_take => k_is)
    (case k__law_take => k_is)
    (case a__law_thing => k_is)
    (case l__law_thing => k_is)
    (case co__law_thing => k_is)
    (case k__law_thing => k_is)
    (case a__law_spoilt => k_is)
    (case l__law_spoilt => k_is)
    (case co__law_spoilt => k_is)
    (case k__law_spoilt => k_is)
    (case a__law_names => k_is)
    (case l__law_names => k_is)
    (case co__law_names => k_is)
    (case k__law_names => k_is)
    (case a__law_rows => k_is)
    (case l__law_rows => k_is)
    (case co__law_rows => k_is)
    (case k__law_rows => k_is)
    (case a__law_box => k_is)
    (case l__law_box => k_is)
    (case co__law_box => k_is)
    (case k__law_box => k_is)
    (case a__law_cell => k_is)
    (case l__law_cell => k_is)
    (case co__law_cell => k_is)
    (case k__law_cell => k_is)
    (case a_law => k_is)
    (case l_law => k_is)
    (case co_law => k_is)
    (case k_law => k_is)
    (case cg => k_is)
    (case cr => k_is)
    (case cf => k_is)
    (case nd => decide)
    (case z_ValueError => k_is)
    (case z_all => k_is)
    (case z_bool => k_is)
    (case z_enumerate => k_is)
    (case z_int => k_is)
    (case z_isinstance => k_is)
    (case z_len => k_is)
    (case z_list => k_is)
    (case z_max => k_is)
    (case z_min => k_is)
    (case z_range => k_is)
    (case z_repr => k_is)
    (case z_str => k_is)
    (case z_tuple => k_is)
    (case g_LETTERS => k_is)
    (case g_FIGURES => k_is)
    (case g_MOST_SIGNS => k_is)
    (case g_MOST_PIECES => k_is)
    (case g_LAST_TURN => k_is)
    (case g_MOST_LENGTH => k_is)

